package room

import (
	"strconv"

	"wigmaker/api"
	"wigmaker/card"
	"wigmaker/dye"
	"wigmaker/hair"
	"wigmaker/plait"
)

// The places of entries that a room writes.
const (
	workroom = 0
	theatre  = 1
)

// wig NAME OTHER COUNT LENGTH
func (s *state) begin(a arguments) api.Errno {
	name, count, length := a.words[0], a.numbers[0], a.numbers[1]
	if !s.isNew(name) {
		return api.ErrName
	}
	i, e := s.findBundle(a.words[1])
	if e != api.OK {
		return e
	}
	if !isLength(length) || count == 0 {
		return api.ErrArg
	}
	if len(s.wigs) == api.MaxWigs {
		return api.ErrLarge
	}
	rest, e := s.cut(i, length, count)
	if e != api.OK {
		return e
	}
	s.bundles[i].hairs = rest
	s.used = append(s.used, name)
	s.wigs = append(s.wigs, wig{Wig: Wig{
		Name:   name,
		Bundle: s.bundles[i].name,
		Hairs:  count,
		Length: length,
		Shade:  api.Shade{Level: 5},
		State:  InWork,
	}})
	return api.OK
}

// cut returns what is left of a bundle if hairs of a length are cut out of it.
func (s *state) cut(i, length, count int) (api.Bundle, api.Errno) {
	rest, _, e := hair.Cut(s.bundles[i].hairs, oneLength(length, count))
	return rest, e
}

// knot NAME COUNT
func (s *state) knot(a arguments) api.Errno {
	i, e := s.findWigIn(a.words[0], InWork)
	if e != api.OK {
		return e
	}
	w := &s.wigs[i]
	if w.Done+a.numbers[0] > w.Hairs {
		return api.ErrShort
	}
	w.Done += a.numbers[0]
	if w.Done == w.Hairs {
		w.State = Ready
	}
	return api.OK
}

// work changes a wig that is Ready, and enters on its card what change says;
// or it changes nothing.
func (s *state) work(name string, change func(w *Wig) (text string, e api.Errno)) api.Errno {
	i, e := s.findWigIn(name, Ready)
	if e != api.OK {
		return e
	}
	w := s.wigs[i].Wig
	text, e := change(&w)
	if e != api.OK {
		return e
	}
	return s.enter(i, w, workroom, text)
}

// bleach NAME
func (s *state) bleach(a arguments) api.Errno {
	return s.work(a.words[0], func(w *Wig) (text string, e api.Errno) {
		w.Shade, e = dye.Bleach(w.Shade)
		return "bleach", e
	})
}

// dye NAME LEVEL TONE
func (s *state) dye(a arguments) api.Errno {
	level, tone := a.numbers[0], a.numbers[1]
	return s.work(a.words[0], func(w *Wig) (text string, e api.Errno) {
		w.Shade, e = dye.Dye(w.Shade, level, tone)
		return "dye c" + strconv.Itoa(level) + "x" + strconv.Itoa(tone), e
	})
}

// plait NAME STYLE
func (s *state) plait(a arguments) api.Errno {
	style := a.words[1]
	return s.work(a.words[0], func(w *Wig) (text string, e api.Errno) {
		word, e := plait.Parse(style)
		if e != api.OK {
			return "", e
		}
		w.Plait, e = plait.Join(w.Plait, word)
		return "plait " + style, e
	})
}

// comb NAME
func (s *state) comb(a arguments) api.Errno {
	return s.work(a.words[0], func(w *Wig) (text string, e api.Errno) {
		w.Plait = ""
		return "comb", api.OK
	})
}

// trim NAME INCHES
func (s *state) trim(a arguments) api.Errno {
	inches := a.numbers[0]
	return s.work(a.words[0], func(w *Wig) (text string, e api.Errno) {
		if inches == 0 || inches >= w.Length {
			return "", api.ErrArg
		}
		w.Length -= inches
		return "cut " + strconv.Itoa(inches), api.OK
	})
}

// wash NAME
func (s *state) wash(a arguments) api.Errno {
	return s.work(a.words[0], func(w *Wig) (text string, e api.Errno) {
		return "wash", api.OK
	})
}

// lend NAME
func (s *state) lend(a arguments) api.Errno {
	i, e := s.findWigIn(a.words[0], Ready)
	if e != api.OK {
		return e
	}
	s.wigs[i].State = Lent
	return api.OK
}

// back NAME COUNT
func (s *state) back(a arguments) api.Errno {
	i, e := s.findWigIn(a.words[0], Lent)
	if e != api.OK {
		return e
	}
	w, count := s.wigs[i].Wig, a.numbers[0]
	if w.Shed+count > w.Hairs {
		return api.ErrShort
	}
	w.Shed += count
	w.State = Ready
	if e := s.enter(i, w, theatre, "shed "+strconv.Itoa(count)); e != api.OK {
		return e
	}
	s.lost += count
	return api.OK
}

// mend NAME OTHER COUNT
func (s *state) mend(a arguments) api.Errno {
	count := a.numbers[0]
	var from int
	var rest api.Bundle
	e := s.work(a.words[0], func(w *Wig) (text string, e api.Errno) {
		from, e = s.findBundle(a.words[1])
		if e != api.OK {
			return "", e
		}
		if count > w.Shed {
			return "", api.ErrShort
		}
		rest, e = s.cut(from, w.Length, count)
		w.Shed -= count
		return "mend " + strconv.Itoa(count), e
	})
	if e == api.OK {
		s.bundles[from].hairs = rest
	}
	return e
}

// sell NAME PENCE
func (s *state) sell(a arguments) api.Errno {
	i, e := s.findWigIn(a.words[0], Ready)
	if e != api.OK {
		return e
	}
	w := &s.wigs[i]
	if w.Shed > 0 {
		return api.ErrState
	}
	w.State, w.Price = Sold, a.numbers[0]
	s.cash += w.Price
	return api.OK
}

// claim NAME
func (s *state) claim(a arguments) api.Errno {
	i, e := s.findWigIn(a.words[0], Sold)
	if e != api.OK {
		return e
	}
	w := &s.wigs[i]
	clock, _ := card.Clock(w.card)
	if clock[theatre] <= clock[workroom] {
		return api.ErrClaim
	}
	s.cash -= w.Price
	w.State, w.Price = Ready, 0
	return api.OK
}
