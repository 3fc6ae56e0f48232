package knot

import "wigmaker/api"

// sumOfWeights returns the sum of the weights, or 0 if they are not valid.
func sumOfWeights(weights []int) int {
	if len(weights) > api.MaxColors {
		return 0
	}
	sum := 0
	for _, w := range weights {
		if w < 0 || w > api.MaxWeight {
			return 0
		}
		sum += w
	}
	return sum
}

// Quotas divides n hairs by weights (P4.4).
func Quotas(weights []int, n int) ([]int, api.Errno) {
	sum := sumOfWeights(weights)
	if sum == 0 || n < 0 || n > api.MaxSpread {
		return nil, api.ErrArg
	}
	quotas := make([]int, len(weights))
	rests := make([]int, len(weights))
	left := n
	for c, w := range weights {
		quotas[c], rests[c] = n*w/sum, n*w%sum
		left -= quotas[c]
	}
	for range left {
		best := 0
		for c, rest := range rests {
			if rest > rests[best] {
				best = c
			}
		}
		quotas[best]++
		rests[best] = -1
	}
	return quotas, api.OK
}

// Spread returns a spread row with n colors (P4.4).
//
// The hair number j (from 1 on) of a color may only come at a k with
// (j-1)*W < k*weight, and must have come at the first k with j*W <= k*weight.
// Taking, of the colors whose next hair may come, the one whose hair is due
// first keeps all these times, because there is a row that keeps them.
func Spread(weights []int, n int) ([]int, api.Errno) {
	sum := sumOfWeights(weights)
	if sum == 0 || n < 0 || n > api.MaxSpread {
		return nil, api.ErrArg
	}
	counts := make([]int, len(weights))
	var colors []int
	for k := 1; k <= n; k++ {
		best := -1
		for c, w := range weights {
			may := counts[c]*sum < k*w
			// Both are due at (count+1)*W/weight; W does not matter here.
			if may && (best < 0 || (counts[c]+1)*weights[best] < (counts[best]+1)*w) {
				best = c
			}
		}
		counts[best]++
		colors = append(colors, best)
	}
	return colors, api.OK
}

// IsSpread reports whether colors is a spread row, or where it ceases to be
// one (P4.5).
func IsSpread(weights, colors []int) (int, bool, api.Errno) {
	sum := sumOfWeights(weights)
	if sum == 0 {
		return 0, false, api.ErrArg
	}
	if len(colors) > api.MaxSpread {
		return 0, false, api.ErrLarge
	}
	for _, c := range colors {
		if c < 0 || c >= len(weights) {
			return 0, false, api.ErrArg
		}
	}
	counts := make([]int, len(weights))
	for i, color := range colors {
		counts[color]++
		for c, w := range weights {
			far := counts[c]*sum - (i+1)*w
			if max(far, -far) >= sum {
				return i + 1, false, api.OK
			}
		}
	}
	return 0, true, api.OK
}

// Runs returns the length of the longest run of equal colors (P4.5).
func Runs(colors []int) (int, api.Errno) {
	if len(colors) > api.MaxSpread {
		return 0, api.ErrLarge
	}
	longest, run := 0, 0
	for i, c := range colors {
		if i > 0 && c != colors[i-1] {
			run = 0
		}
		run++
		longest = max(longest, run)
	}
	return longest, api.OK
}
