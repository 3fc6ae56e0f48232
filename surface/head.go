package surface

import (
	"slices"

	"wigmaker/api"
)

// ValidateHead returns the first error of the measures of a head (P2.6).
func ValidateHead(h api.Head) api.Errno {
	for _, measure := range [6]int{h.Round, h.Front, h.Ears, h.Brow, h.Back, h.Nape} {
		if !isSide(measure) {
			return api.ErrArg
		}
	}
	if max(h.Front, h.Ears, h.Brow, h.Back) >= h.Round || h.Nape >= h.Back {
		return api.ErrRule
	}
	if h.Round > h.Brow+h.Back || h.Round > 2*h.Front {
		return api.ErrRule
	}
	return api.OK
}

// Block returns the greatest size that is not above the head, and what the
// head is above it (P2.6).
func Block(h api.Head, sizes []int) (int, int, api.Errno) {
	if e := ValidateHead(h); e != api.OK {
		return 0, 0, e
	}
	best, before := 0, 0
	for _, size := range sizes {
		if !isSide(size) || size <= before {
			return 0, 0, api.ErrArg
		}
		before = size
		if size <= h.Round {
			best = size
		}
	}
	if best == 0 {
		return 0, 0, api.ErrNone
	}
	return best, h.Round - best, api.OK
}

// Wears reports whether a cap can be worn on a head (P2.6).
func Wears(c api.Cap, h api.Head) (bool, api.Errno) {
	parts, e := Parts(c)
	if e != api.OK {
		return false, e
	}
	if e := ValidateHead(h); e != api.OK {
		return false, e
	}
	handles, _ := Handles(c)
	lengths, _ := Hairline(c)
	if parts != 1 || handles != 0 || len(lengths) == 0 {
		return false, api.OK
	}
	longest := slices.Max(lengths)
	return longest >= h.Round && longest <= h.Round+api.MaxEase, api.OK
}
