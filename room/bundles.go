package room

import (
	"slices"

	"wigmaker/api"
	"wigmaker/hair"
)

// oneLength returns a bundle of some hairs of one length from 1 to MaxLong.
func oneLength(length, count int) api.Bundle {
	right := make([]int, length)
	right[length-1] = count
	return api.Bundle{Right: right}
}

func isLength(n int) bool {
	return n >= 1 && n <= api.MaxLong
}

// buy NAME LENGTH COUNT PENCE
func (s *state) buy(a arguments) api.Errno {
	name, length, count, pence := a.words[0], a.numbers[0], a.numbers[1], a.numbers[2]
	if !s.isNew(name) {
		return api.ErrName
	}
	if !isLength(length) || count == 0 {
		return api.ErrArg
	}
	if len(s.bundles) == api.MaxBundles {
		return api.ErrLarge
	}
	s.addBundle(name, oneLength(length, count))
	s.cash -= pence
	s.bought += count
	return api.OK
}

// mix NAME OTHER
func (s *state) mix(a arguments) api.Errno {
	i, e := s.findBundle(a.words[0])
	if e != api.OK {
		return e
	}
	j, e := s.findBundle(a.words[1])
	if e != api.OK {
		return e
	}
	if i == j {
		return api.ErrArg
	}
	hairs, e := hair.Mix(s.bundles[i].hairs, s.bundles[j].hairs)
	if e != api.OK {
		return e
	}
	s.bundles[i].hairs = hairs
	s.bundles = slices.Delete(s.bundles, j, j+1)
	return api.OK
}

// draw NAME COUNT NEW
func (s *state) draw(a arguments) api.Errno {
	i, e := s.findBundle(a.words[0])
	if e != api.OK {
		return e
	}
	if !s.isNew(a.words[1]) {
		return api.ErrName
	}
	if len(s.bundles) == api.MaxBundles {
		return api.ErrLarge
	}
	drawn, rest, e := hair.Draw(s.bundles[i].hairs, a.numbers[0])
	if e != api.OK {
		return e
	}
	s.bundles[i].hairs = rest
	s.addBundle(a.words[1], drawn)
	return api.OK
}

// hackle NAME LENGTH
func (s *state) hackle(a arguments) api.Errno {
	i, e := s.findBundle(a.words[0])
	if e != api.OK {
		return e
	}
	kept, combings, e := hair.Hackle(s.bundles[i].hairs, a.numbers[0])
	if e != api.OK {
		return e
	}
	lost, _ := hair.Count(combings)
	s.bundles[i].hairs = kept
	s.lost += lost
	return api.OK
}

// turn NAME
func (s *state) turn(a arguments) api.Errno {
	i, e := s.findBundle(a.words[0])
	if e != api.OK {
		return e
	}
	hairs, e := hair.Turn(s.bundles[i].hairs)
	if e != api.OK {
		return e
	}
	s.bundles[i].hairs = hairs
	return api.OK
}

// snap NAME LENGTH AT COUNT
func (s *state) snap(a arguments) api.Errno {
	i, e := s.findBundle(a.words[0])
	if e != api.OK {
		return e
	}
	hairs, e := hair.Snap(s.bundles[i].hairs, a.numbers[0], a.numbers[1], a.numbers[2])
	if e != api.OK {
		return e
	}
	s.bundles[i].hairs = hairs
	s.bought += a.numbers[2]
	return api.OK
}
