package hair

import "wigmaker/api"

// Share returns the part of the hairs that have at least a length (P1.5).
func Share(b api.Bundle, length int) (api.Rat, api.Errno) {
	s, e := openFilled(b)
	if e != api.OK {
		return api.Rat{}, e
	}
	return ratio(s.above(length), s.count()), api.OK
}

// Mean returns the mean length (P1.5).
func Mean(b api.Bundle) (api.Rat, api.Errno) {
	s, e := openFilled(b)
	if e != api.OK {
		return api.Rat{}, e
	}
	return ratio(s.inches(), s.count()), api.OK
}

// Mats returns the part of the hairs that lie wrong (P1.5).
func Mats(b api.Bundle) (api.Rat, api.Errno) {
	s, e := openFilled(b)
	if e != api.OK {
		return api.Rat{}, e
	}
	wrong := 0
	for _, n := range s.wrong {
		wrong += n
	}
	return ratio(wrong, s.count()), api.OK
}

// Compare compares two bundles by their shares of every length (P1.6).
func Compare(a, b api.Bundle) (int, api.Errno) {
	s, t, e := openBoth(a, b)
	if e != api.OK {
		return 0, e
	}
	if s.count() == 0 || t.count() == 0 {
		return 0, api.ErrNone
	}
	first, second := false, false
	for length := 1; length <= api.MaxLong; length++ {
		x := s.above(length) * t.count()
		y := t.above(length) * s.count()
		first = first || x > y
		second = second || y > x
	}
	switch {
	case first && second:
		return api.Neither, api.OK
	case first:
		return api.First, api.OK
	case second:
		return api.Second, api.OK
	}
	return api.Alike, api.OK
}

// Weight returns the weight of the hairs with their dampness (P1.9).
func Weight(b api.Bundle, damp int) (int, api.Errno) {
	s, e := open(b)
	if e != api.OK {
		return 0, e
	}
	if damp < 0 || damp > api.MaxDamp {
		return 0, api.ErrArg
	}
	return nearest(s.inches()*(100+damp), 100), api.OK
}

// openFilled is open, with ErrNone for a bundle without hairs.
func openFilled(b api.Bundle) (sheaf, api.Errno) {
	s, e := open(b)
	if e == api.OK && s.count() == 0 {
		e = api.ErrNone
	}
	return s, e
}

// ratio returns num/den in lowest terms, for num from 0 and den from 1 on.
func ratio(num, den int) api.Rat {
	x, y := num, den
	for y != 0 {
		x, y = y, x%y
	}
	return api.Rat{Num: num / x, Den: den / x}
}

// nearest returns num/den rounded to the nearest, for num from 0 and den from
// 1 on.
func nearest(num, den int) int {
	n, rest := num/den, num%den
	if 2*rest > den || 2*rest == den && n%2 == 1 {
		n++
	}
	return n
}
