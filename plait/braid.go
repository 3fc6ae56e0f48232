package plait

import (
	"strings"

	"wigmaker/api"
)

// crossing returns the left one of the places that a letter crosses, and
// whether the strand there goes over the other one.
func crossing(letter rune) (left int, over bool) {
	switch letter {
	case 'a':
		return 0, true
	case 'A':
		return 0, false
	case 'b':
		return 1, true
	}
	return 1, false
}

// follow follows the strands of a word. It returns where each ends, and how
// often it goes over and under another one.
func follow(w string) (ends, over, under [3]int) {
	strands := [3]int{0, 1, 2}
	for _, letter := range w {
		left, isOver := crossing(letter)
		upper, lower := strands[left], strands[left+1]
		strands[left], strands[left+1] = lower, upper
		if !isOver {
			upper, lower = lower, upper
		}
		over[upper]++
		under[lower]++
	}
	for place, strand := range strands {
		ends[strand] = place
	}
	return ends, over, under
}

// Ends returns where the strands end (P6.2).
func Ends(w string) ([3]int, api.Errno) {
	if !Valid(w) {
		return [3]int{}, api.ErrArg
	}
	ends, _, _ := follow(w)
	return ends, api.OK
}

// Rings returns the number of rings of the closed plait (P6.2).
func Rings(w string) (int, api.Errno) {
	ends, e := Ends(w)
	if e != api.OK {
		return 0, e
	}
	rings := 0
	var seen [3]bool
	for first := range ends {
		if !seen[first] {
			rings++
		}
		for place := first; !seen[place]; place = ends[place] {
			seen[place] = true
		}
	}
	return rings, api.OK
}

// Crossings returns the small letters minus the large ones (P6.2).
func Crossings(w string) (int, api.Errno) {
	if !Valid(w) {
		return 0, api.ErrArg
	}
	n := 0
	for _, letter := range w {
		if _, over := crossing(letter); over {
			n++
		} else {
			n--
		}
	}
	return n, api.OK
}

// Shadow returns how often each strand goes over and under (P6.2).
func Shadow(w string) (over, under [3]int, e api.Errno) {
	if !Valid(w) {
		return over, under, api.ErrArg
	}
	_, over, under = follow(w)
	return over, under, api.OK
}

// Matrix returns the product of the matrices of the letters (P6.3).
func Matrix(w string) ([4]int, api.Errno) {
	if !Valid(w) {
		return [4]int{}, api.ErrArg
	}
	p, q, r, s := 1, 0, 0, 1
	for _, letter := range w {
		switch letter {
		case 'a':
			q, s = q+p, s+r
		case 'A':
			q, s = q-p, s-r
		case 'b':
			p, r = p-q, r-s
		case 'B':
			p, r = p+q, r+s
		}
	}
	return [4]int{p, q, r, s}, api.OK
}

// form is a number of half twists followed by a word of small letters in which
// no half twist occurs.
type form struct {
	twists int
	rest   string
}

// cross puts a small letter behind the form. A half twist that arises at the
// end is taken to the front, which flips what it passes.
func (f form) cross(letter string) form {
	f.rest += letter
	if strings.HasSuffix(f.rest, "aba") || strings.HasSuffix(f.rest, "bab") {
		f.rest = flip(f.rest[:len(f.rest)-3])
		f.twists++
	}
	return f
}

// untwist puts the inverse of a half twist behind the form, and takes it to
// the front.
func (f form) untwist() form {
	return form{f.twists - 1, flip(f.rest)}
}

// normal returns the form of a word. `A` is the inverse of a half twist
// followed by `ab`, `B` one followed by `ba`.
func normal(w string) form {
	var f form
	for _, letter := range w {
		switch letter {
		case 'a':
			f = f.cross("a")
		case 'b':
			f = f.cross("b")
		case 'A':
			f = f.untwist().cross("a").cross("b")
		case 'B':
			f = f.untwist().cross("b").cross("a")
		}
	}
	return f
}

// Normal returns the normal form of a plait (P6.4).
func Normal(w string) (twists int, rest string, e api.Errno) {
	if !Valid(w) {
		return 0, "", api.ErrArg
	}
	f := normal(w)
	return f.twists, f.rest, api.OK
}

// Same reports whether two words are the same plait (P6.4).
func Same(u, v string) (bool, api.Errno) {
	if !Valid(u) || !Valid(v) {
		return false, api.ErrArg
	}
	return normal(u) == normal(v), api.OK
}

// IsTwist reports whether a plait is a number of half twists (P6.4).
func IsTwist(w string) (bool, api.Errno) {
	if !Valid(w) {
		return false, api.ErrArg
	}
	return normal(w).rest == "", api.OK
}
