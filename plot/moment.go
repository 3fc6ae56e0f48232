package plot

import (
	"slices"

	"wigmaker/api"
)

// crowd returns the wearings of a size that occupy a wig at a minute.
func crowd(p api.Play, m api.Moment) []int {
	var set []int
	for i, w := range p.Wears {
		if w.Size == m.Size && w.From <= m.At && w.To+p.Redress > m.At {
			set = append(set, i)
		}
	}
	return set
}

// Crowd returns the wearings of a size that occupy a wig at a minute (P7.3).
func Crowd(p api.Play, m api.Moment) ([]int, api.Errno) {
	if e := Validate(p); e != api.OK {
		return nil, e
	}
	return crowd(p, m), api.OK
}

// Needs returns how many wigs some moments prove to be needed (P7.3).
func Needs(p api.Play, l []api.Moment) (int, api.Errno) {
	if e := Validate(p); e != api.OK {
		return 0, e
	}
	if len(l) > api.MaxWears {
		return 0, api.ErrLarge
	}
	sum := 0
	for i, m := range l {
		for _, other := range l[:i] {
			if other.Size == m.Size {
				return 0, api.ErrTwice
			}
		}
		sum += len(crowd(p, m))
	}
	return sum, api.OK
}

// Moments returns moments that prove that no fewer wigs do (P7.3). Of each
// size, the most wigs are occupied when some wearing begins.
func Moments(p api.Play) ([]api.Moment, api.Errno) {
	if e := Validate(p); e != api.OK {
		return nil, e
	}
	var list []api.Moment
	for _, wearings := range sizes(p) {
		best := api.Moment{Size: wearings[0].Size, At: wearings[0].From}
		for _, w := range wearings {
			m := api.Moment{Size: w.Size, At: w.From}
			if len(crowd(p, m)) > len(crowd(p, best)) {
				best = m
			}
		}
		list = append(list, best)
	}
	return list, api.OK
}

// Quick returns the pairs of wearings between which an actor has little time
// (P7.4).
func Quick(p api.Play, minutes int) ([][2]int, api.Errno) {
	if e := Validate(p); e != api.OK {
		return nil, e
	}
	if !isMinute(minutes) {
		return nil, api.ErrArg
	}
	var pairs [][2]int
	for i, w := range p.Wears {
		j := next(p, i)
		if j >= 0 && p.Wears[j].From < w.To+minutes {
			pairs = append(pairs, [2]int{i, j})
		}
	}
	return pairs, api.OK
}

// next returns the wearing of the same actor that follows a wearing, or -1.
func next(p api.Play, i int) int {
	best := -1
	for j, w := range p.Wears {
		later := w.Actor == p.Wears[i].Actor && w.From > p.Wears[i].From
		if later && (best < 0 || w.From < p.Wears[best].From) {
			best = j
		}
	}
	return best
}

// Delay moves all wearings from a minute on to later times (P7.4).
func Delay(p api.Play, from, by int) (api.Play, api.Errno) {
	if e := Validate(p); e != api.OK {
		return api.Play{}, e
	}
	if !isMinute(from) || !isMinute(by) {
		return api.Play{}, api.ErrArg
	}
	p.Wears = slices.Clone(p.Wears)
	for i, w := range p.Wears {
		if w.From >= from {
			p.Wears[i].From += by
			p.Wears[i].To += by
		}
	}
	if e := Validate(p); e != api.OK {
		return api.Play{}, e
	}
	return p, api.OK
}
