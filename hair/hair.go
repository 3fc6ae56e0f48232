// Package hair is layer 1: bundles of hair, counted by length and by how the
// hairs lie. See shared/doc/01-hair.md.
package hair

import "wigmaker/api"

// Validate returns the first error of a bundle (P1.1).
func Validate(b api.Bundle) api.Errno {
	if len(b.Right) > api.MaxLong || len(b.Wrong) > api.MaxLong {
		return api.ErrLarge
	}
	large := false
	for _, list := range [2][]int{b.Right, b.Wrong} {
		for _, n := range list {
			if n < 0 {
				return api.ErrArg
			}
			large = large || n > api.MaxHairs
		}
	}
	if large {
		return api.ErrLarge
	}
	return api.OK
}

// Make returns the trimmed bundle with the given hairs that lie right (P1.1).
func Make(right ...int) (api.Bundle, api.Errno) {
	return Trim(api.Bundle{Right: right})
}

// Trim returns the trimmed bundle (P1.2).
func Trim(b api.Bundle) (api.Bundle, api.Errno) {
	s, e := open(b)
	if e != api.OK {
		return api.Bundle{}, e
	}
	return s.bundle()
}

// Same reports whether two bundles have the same hairs (P1.2).
func Same(a, b api.Bundle) (bool, api.Errno) {
	s, t, e := openBoth(a, b)
	if e != api.OK {
		return false, e
	}
	return s == t, api.OK
}

// Count returns the number of all hairs (P1.2).
func Count(b api.Bundle) (int, api.Errno) {
	s, e := open(b)
	return s.count(), e
}

// Inches returns the sum of the lengths of all hairs (P1.2).
func Inches(b api.Bundle) (int, api.Errno) {
	s, e := open(b)
	return s.inches(), e
}

// Above returns how many hairs have at least a length (P1.2).
func Above(b api.Bundle, length int) (int, api.Errno) {
	s, e := open(b)
	return s.above(length), e
}

// Mix returns the hairs of both bundles (P1.2).
func Mix(a, b api.Bundle) (api.Bundle, api.Errno) {
	s, t, e := openBoth(a, b)
	if e != api.OK {
		return api.Bundle{}, e
	}
	return s.plus(t).bundle()
}

// Draw parts the n longest hairs from the rest (P1.3).
func Draw(b api.Bundle, n int) (drawn, rest api.Bundle, e api.Errno) {
	s, e := open(b)
	if e != api.OK {
		return api.Bundle{}, api.Bundle{}, e
	}
	if n < 0 {
		return api.Bundle{}, api.Bundle{}, api.ErrArg
	}
	if n > s.count() {
		return api.Bundle{}, api.Bundle{}, api.ErrShort
	}
	d, r := s.draw(n)
	return d.trimmed(), r.trimmed(), api.OK
}

// Hackle parts the hairs of at least a length from the shorter ones (P1.3).
func Hackle(b api.Bundle, least int) (kept, combings api.Bundle, e api.Errno) {
	s, e := open(b)
	if e != api.OK {
		return api.Bundle{}, api.Bundle{}, e
	}
	if least < 1 || least > api.MaxLong+1 {
		return api.Bundle{}, api.Bundle{}, api.ErrArg
	}
	k, c := s.draw(s.above(least))
	return k.trimmed(), c.trimmed(), api.OK
}

// Turn returns the bundle where all hairs lie right (P1.3).
func Turn(b api.Bundle) (api.Bundle, api.Errno) {
	s, e := open(b)
	if e != api.OK {
		return api.Bundle{}, e
	}
	return sheaf{right: s.right}.plus(sheaf{right: s.wrong}).bundle()
}

// Snap breaks n hairs of a length in two (P1.4).
func Snap(b api.Bundle, length, at, n int) (api.Bundle, api.Errno) {
	s, e := open(b)
	if e != api.OK {
		return api.Bundle{}, e
	}
	if length < 2 || length > api.MaxLong || at < 1 || at > length-1 || n < 0 {
		return api.Bundle{}, api.ErrArg
	}
	if s.right[length-1]+s.wrong[length-1] < n {
		return api.Bundle{}, api.ErrShort
	}
	right, wrong := s.pick(length-1, n)
	s.right[length-1] -= right
	s.wrong[length-1] -= wrong
	for _, part := range [2]int{at, length - at} {
		s.right[part-1] += right
		s.wrong[part-1] += wrong
	}
	return s.bundle()
}

// Handfuls draws n hairs again and again, and last what is left (P1.7).
func Handfuls(b api.Bundle, n int) ([]api.Bundle, api.Errno) {
	s, e := open(b)
	if e != api.OK {
		return nil, e
	}
	if n < 1 {
		return nil, api.ErrArg
	}
	left := s.count()
	// Not (left + n - 1) / n: that sum can overflow.
	if left > 0 && (left-1)/n >= api.MaxHandfuls {
		return nil, api.ErrLarge
	}
	var list []api.Bundle
	for left > 0 {
		drawn, rest := s.draw(min(n, left))
		list = append(list, drawn.trimmed())
		s = rest
		left = s.count()
	}
	return list, api.OK
}

// Cut cuts the wanted hairs out of what one has (P1.8).
func Cut(have, want api.Bundle) (rest api.Bundle, lost int, e api.Errno) {
	s, t, e := openBoth(have, want)
	if e != api.OK {
		return api.Bundle{}, 0, e
	}
	for i := api.MaxLong - 1; i >= 0; i-- {
		left, off, unserved := s.cut(i, t.right[i]+t.wrong[i])
		if unserved > 0 {
			return api.Bundle{}, 0, api.ErrShort
		}
		s = left
		lost += off
	}
	return s.trimmed(), lost, api.OK
}

// Lack returns the greatest length of which too few hairs are there (P1.8).
func Lack(have, want api.Bundle) (int, bool, api.Errno) {
	s, t, e := openBoth(have, want)
	if e != api.OK {
		return 0, false, e
	}
	for length := api.MaxLong; length >= 1; length-- {
		if t.above(length) > s.above(length) {
			return length, true, api.OK
		}
	}
	return 0, false, api.OK
}
