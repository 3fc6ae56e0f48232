package dye

import "wigmaker/api"

// maxNear is the greatest difference that a want can allow.
const maxNear = 100

// Near reports whether a lot may be given to a want (P5.6).
func Near(l api.Lot, w api.Want) bool {
	n, e := Differ(l.Shade, w.Shade)
	return e == api.OK && n <= w.Near
}

// Validate returns the first error of lots and wants (P5.6).
func Validate(lots []api.Lot, wants []api.Want) api.Errno {
	if len(lots) > api.MaxLots || len(wants) > api.MaxWants {
		return api.ErrLarge
	}
	for _, l := range lots {
		if !ValidShade(l.Shade) || !isWeight(l.Weight) {
			return api.ErrArg
		}
	}
	for _, w := range wants {
		if !ValidShade(w.Shade) || !isWeight(w.Weight) || w.Near < 0 || w.Near > maxNear {
			return api.ErrArg
		}
	}
	return api.OK
}

// Check returns the sum of gifts, or their first error (P5.6).
func Check(lots []api.Lot, wants []api.Want, gifts []api.Gift) (int, api.Errno) {
	if e := Validate(lots, wants); e != api.OK {
		return 0, e
	}
	given, got := make([]int, len(lots)), make([]int, len(wants))
	sum := 0
	for _, g := range gifts {
		if e := checkGift(lots, wants, g); e != api.OK {
			return 0, e
		}
		given[g.Lot] += g.Weight
		got[g.Want] += g.Weight
		sum += g.Weight
	}
	for i, n := range given {
		if n > lots[i].Weight {
			return 0, api.ErrShort
		}
	}
	for i, n := range got {
		if n > wants[i].Weight {
			return 0, api.ErrShort
		}
	}
	return sum, api.OK
}

// checkGift returns the first error of a gift by itself.
func checkGift(lots []api.Lot, wants []api.Want, g api.Gift) api.Errno {
	switch {
	case g.Want < 0 || g.Want >= len(wants) || g.Lot < 0 || g.Lot >= len(lots):
		return api.ErrNone
	case g.Weight < 1 || g.Weight > api.MaxWeight:
		return api.ErrArg
	case !Near(lots[g.Lot], wants[g.Want]):
		return api.ErrFit
	}
	return api.OK
}

// Best returns gifts with the greatest possible sum, and this sum (P5.7).
func Best(lots []api.Lot, wants []api.Want) ([]api.Gift, int, api.Errno) {
	if e := Validate(lots, wants); e != api.OK {
		return nil, 0, e
	}
	var gifts []api.Gift
	sum := 0
	for want, given := range share(lots, wants) {
		for lot, weight := range given {
			if weight > 0 {
				gifts = append(gifts, api.Gift{Want: want, Lot: lot, Weight: weight})
				sum += weight
			}
		}
	}
	return gifts, sum, api.OK
}

// share returns how much each want gets of each lot, such that no more can be
// given: the wants get what they can one after another, from lots that have
// something left or that other wants give back for something else.
func share(lots []api.Lot, wants []api.Want) [api.MaxWants][api.MaxLots]int {
	left := make([]api.Lot, len(lots))
	copy(left, lots)
	var given [api.MaxWants][api.MaxLots]int
	var tried [api.MaxLots]bool
	var get func(want, most int) int
	get = func(want, most int) int {
		for lot := range left {
			if tried[lot] || !Near(left[lot], wants[want]) {
				continue
			}
			tried[lot] = true
			n := min(most, left[lot].Weight)
			left[lot].Weight -= n
			for other := 0; n == 0 && other < len(wants); other++ {
				if back := min(most, given[other][lot]); back > 0 {
					n = get(other, back)
					given[other][lot] -= n
				}
			}
			if n > 0 {
				given[want][lot] += n
				return n
			}
		}
		return 0
	}
	for want, w := range wants {
		for more := w.Weight; more > 0; {
			clear(tried[:])
			n := get(want, more)
			if n == 0 {
				break
			}
			more -= n
		}
	}
	return given
}

// Bound returns the sum above which nothing can be given, by a set of wants
// (P5.7).
func Bound(lots []api.Lot, wants []api.Want, set []int) (int, api.Errno) {
	if e := Validate(lots, wants); e != api.OK {
		return 0, e
	}
	for i, want := range set {
		if want < 0 || want >= len(wants) || i > 0 && want <= set[i-1] {
			return 0, api.ErrArg
		}
	}
	sum := 0
	for _, w := range wants {
		sum += w.Weight
	}
	for _, want := range set {
		sum -= wants[want].Weight
	}
	for _, l := range lots {
		for _, want := range set {
			if Near(l, wants[want]) {
				sum += l.Weight
				break
			}
		}
	}
	return sum, api.OK
}

// Lack returns a set of wants that proves that no more can be given (P5.7).
func Lack(lots []api.Lot, wants []api.Want) ([]int, api.Errno) {
	_, best, e := Best(lots, wants)
	if e != api.OK {
		return nil, e
	}
	for mask := range 1 << len(wants) {
		var set []int
		for want := range wants {
			if mask>>want&1 == 1 {
				set = append(set, want)
			}
		}
		if bound, _ := Bound(lots, wants, set); bound == best {
			return set, api.OK
		}
	}
	return nil, api.OK
}
