package room

import (
	"slices"
	"strings"

	"wigmaker/api"
	"wigmaker/card"
	"wigmaker/hair"
)

// state is what a room has.
type state struct {
	bundles            []bundle
	wigs               []wig
	used               []string // all names that were ever given
	bought, lost, cash int
	book               []string // the accepted orders
}

type bundle struct {
	name  string
	hairs api.Bundle
}

type wig struct {
	Wig
	card []api.Entry
}

func (s *state) findBundle(name string) (int, api.Errno) {
	i := slices.IndexFunc(s.bundles, func(b bundle) bool { return b.name == name })
	if i < 0 {
		return 0, api.ErrNone
	}
	return i, api.OK
}

func (s *state) findWig(name string) (int, api.Errno) {
	i := slices.IndexFunc(s.wigs, func(w wig) bool { return w.Name == name })
	if i < 0 {
		return 0, api.ErrNone
	}
	return i, api.OK
}

// findWigIn returns a wig that is in a state.
func (s *state) findWigIn(name string, in int) (int, api.Errno) {
	i, e := s.findWig(name)
	if e != api.OK {
		return 0, e
	}
	if s.wigs[i].State != in {
		return 0, api.ErrState
	}
	return i, api.OK
}

// isNew reports whether a word of letters and digits can name a new thing.
func (s *state) isNew(name string) bool {
	return len(name) <= api.MaxName && name[0] >= 'a' && !slices.Contains(s.used, name)
}

// addBundle puts a bundle with a new name into the room.
func (s *state) addBundle(name string, hairs api.Bundle) {
	s.used = append(s.used, name)
	s.bundles = append(s.bundles, bundle{name, hairs})
}

// enter replaces a wig and puts an entry on its card, or changes nothing.
func (s *state) enter(i int, w Wig, place int, text string) api.Errno {
	c, e := card.Add(s.wigs[i].card, place, text)
	if e != api.OK {
		return e
	}
	s.wigs[i] = wig{w, c}
	return api.OK
}

// day returns the day book.
func (s *state) day() string {
	text := strings.Join(s.book, "\n")
	if len(s.book) > 0 {
		text += "\n"
	}
	return text
}

// balanced reports whether no hair came from nothing, and all cards are valid.
func (s *state) balanced() bool {
	sum := s.lost
	for _, b := range s.bundles {
		n, _ := hair.Count(b.hairs)
		sum += n
	}
	for _, w := range s.wigs {
		sum += w.Hairs - w.Shed
		if card.Validate(w.card) != api.OK {
			return false
		}
	}
	return sum == s.bought
}

// equals reports whether two rooms have equal things and numbers.
func (s *state) equals(t *state) bool {
	sameBundle := func(a, b bundle) bool {
		same, _ := hair.Same(a.hairs, b.hairs)
		return same && a.name == b.name
	}
	sameWig := func(a, b wig) bool {
		return a.Wig == b.Wig && slices.Equal(a.card, b.card)
	}
	return slices.EqualFunc(s.bundles, t.bundles, sameBundle) && slices.EqualFunc(s.wigs, t.wigs, sameWig) &&
		s.bought == t.bought && s.lost == t.lost && s.cash == t.cash
}
