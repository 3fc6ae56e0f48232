package dye

import (
	"cmp"
	"slices"

	"wigmaker/api"
)

// ValidateBlend returns the first error of a blend (P5.4).
func ValidateBlend(l []api.Part) api.Errno {
	if len(l) > api.MaxParts {
		return api.ErrLarge
	}
	if len(l) == 0 {
		return api.ErrArg
	}
	for _, p := range l {
		if !ValidShade(p.Shade) || p.Weight < 1 || p.Weight > api.MaxWeight {
			return api.ErrArg
		}
	}
	return api.OK
}

// validateBlends returns the first error of two blends.
func validateBlends(a, b []api.Part) api.Errno {
	if e := ValidateBlend(a); e != api.OK {
		return e
	}
	return ValidateBlend(b)
}

// Normal returns the normal blend with the same shares (P5.4).
func Normal(l []api.Part) ([]api.Part, api.Errno) {
	if e := ValidateBlend(l); e != api.OK {
		return nil, e
	}
	return normal(collect(l))
}

// Mix returns the normal blend of two blends in a proportion (P5.4).
func Mix(a []api.Part, wa int, b []api.Part, wb int) ([]api.Part, api.Errno) {
	if e := validateBlends(a, b); e != api.OK {
		return nil, e
	}
	if !isWeight(wa) || !isWeight(wb) || wa+wb == 0 {
		return nil, api.ErrArg
	}
	// With these factors both blends have the same sum of weights for one
	// part of the proportion.
	return normal(collect(scaled(a, wa*total(b)), scaled(b, wb*total(a))))
}

// isWeight reports whether n is a weight that may be 0.
func isWeight(n int) bool {
	return n >= 0 && n <= api.MaxWeight
}

// collect brings the parts of lists together: each shade once, in ascending
// order, without those whose weights add up to 0.
func collect(lists ...[]api.Part) []api.Part {
	all := slices.Concat(lists...)
	slices.SortFunc(all, func(p, q api.Part) int { return compareShades(p.Shade, q.Shade) })
	var list []api.Part
	for _, p := range all {
		if n := len(list); n > 0 && list[n-1].Shade == p.Shade {
			list[n-1].Weight += p.Weight
		} else {
			list = append(list, p)
		}
	}
	return slices.DeleteFunc(list, func(p api.Part) bool { return p.Weight == 0 })
}

// compareShades compares in ascending order.
func compareShades(a, b api.Shade) int {
	return cmp.Or(cmp.Compare(a.Level, b.Level), cmp.Compare(a.Tone, b.Tone), cmp.Compare(a.Bleached, b.Bleached))
}

// scaled returns a blend with all weights times a factor.
func scaled(l []api.Part, by int) []api.Part {
	var list []api.Part
	for _, p := range l {
		list = append(list, api.Part{Shade: p.Shade, Weight: p.Weight * by})
	}
	return list
}

func total(l []api.Part) int {
	sum := 0
	for _, p := range l {
		sum += p.Weight
	}
	return sum
}

// normal makes the weights of a collected list as small as they can be.
func normal(l []api.Part) ([]api.Part, api.Errno) {
	by := 0
	for _, p := range l {
		by = gcd(by, p.Weight)
	}
	if len(l) > api.MaxParts {
		return nil, api.ErrLarge
	}
	for i := range l {
		l[i].Weight /= by
		if l[i].Weight > api.MaxWeight {
			return nil, api.ErrLarge
		}
	}
	return l, api.OK
}

func gcd(x, y int) int {
	for y != 0 {
		x, y = y, x%y
	}
	return x
}

// Apart returns how far two blends are apart (P5.5).
func Apart(a, b []api.Part) (api.Rat, api.Errno) {
	if e := validateBlends(a, b); e != api.OK {
		return api.Rat{}, e
	}
	differ := 0
	for _, p := range collect(scaled(a, total(b)), scaled(b, -total(a))) {
		differ += abs(p.Weight)
	}
	all := 2 * total(a) * total(b)
	by := gcd(differ, all)
	return api.Rat{Num: differ / by, Den: all / by}, api.OK
}

// Matches reports whether two blends are at most a bound apart (P5.5).
func Matches(a, sample []api.Part, bound api.Rat) (bool, api.Errno) {
	apart, e := Apart(a, sample)
	if e != api.OK {
		return false, e
	}
	if bound.Den < 1 || bound.Den > api.MaxDen || bound.Num < 0 || bound.Num > bound.Den || gcd(bound.Num, bound.Den) != 1 {
		return false, api.ErrArg
	}
	return apart.Num*bound.Den <= bound.Num*apart.Den, api.OK
}
