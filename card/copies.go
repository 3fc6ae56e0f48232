package card

import "wigmaker/api"

// find returns the entry of a card with a place and number.
func find(c []api.Entry, place, seq int) (api.Entry, bool) {
	for _, e := range c {
		if e.Place == place && e.Seq == seq {
			return e, true
		}
	}
	return api.Entry{}, false
}

// compare returns the entries that both cards have, and those that only the
// first and only the second one has. Its errors are those of Merge, but for
// the last one.
func compare(a, b []api.Entry) (both, first, second []api.Entry, e api.Errno) {
	if e := Validate(a); e != api.OK {
		return nil, nil, nil, e
	}
	if e := Validate(b); e != api.OK {
		return nil, nil, nil, e
	}
	for _, x := range a {
		y, found := find(b, x.Place, x.Seq)
		switch {
		case !found:
			first = append(first, x)
		case x == y:
			both = append(both, x)
		default:
			return nil, nil, nil, api.ErrParted
		}
	}
	for _, y := range b {
		if _, found := find(a, y.Place, y.Seq); !found {
			second = append(second, y)
		}
	}
	return both, first, second, api.OK
}

// Relation compares two cards by their entries (P8.4).
func Relation(a, b []api.Entry) (int, api.Errno) {
	_, first, second, e := compare(a, b)
	switch {
	case e != api.OK:
		return 0, e
	case len(first) > 0 && len(second) > 0:
		return api.Neither, api.OK
	case len(first) > 0:
		return api.First, api.OK
	case len(second) > 0:
		return api.Second, api.OK
	}
	return api.Alike, api.OK
}

// Merge returns the card with all entries of both (P8.4).
func Merge(a, b []api.Entry) ([]api.Entry, api.Errno) {
	both, first, second, e := compare(a, b)
	if e != api.OK {
		return nil, e
	}
	if len(both)+len(first)+len(second) > api.MaxEntries {
		return nil, api.ErrLarge
	}
	for _, x := range append(first, second...) {
		both = put(both, x)
	}
	return both, api.OK
}

// Meet returns the card with the entries that both have (P8.4).
func Meet(a, b []api.Entry) ([]api.Entry, api.Errno) {
	both, _, _, e := compare(a, b)
	return both, e
}

// Missing returns the entries that a copy with a clock lacks (P8.5).
func Missing(c []api.Entry, clock [3]int) ([]api.Entry, api.Errno) {
	if e := Validate(c); e != api.OK {
		return nil, e
	}
	return only(c, func(e api.Entry) bool { return e.Seq > clock[e.Place] }), api.OK
}

// At returns the card as it was at a clock (P8.5).
func At(c []api.Entry, clock [3]int) ([]api.Entry, api.Errno) {
	counts, e := Clock(c)
	if e != api.OK {
		return nil, e
	}
	for p, n := range clock {
		if n < 0 || n > counts[p] {
			return nil, api.ErrArg
		}
	}
	list := only(c, func(e api.Entry) bool { return e.Seq <= clock[e.Place] })
	for _, e := range list {
		for p, n := range e.Seen {
			if n > clock[p] {
				return nil, api.ErrSeen
			}
		}
	}
	return list, api.OK
}

// Known returns an entry and what stood on the copy when it was written
// (P8.5).
func Known(c []api.Entry, entry int) ([]api.Entry, api.Errno) {
	if e := Validate(c); e != api.OK {
		return nil, e
	}
	if !isEntry(c, entry) {
		return nil, api.ErrNone
	}
	writer := c[entry]
	return only(c, func(e api.Entry) bool { return e == writer || hasSeen(writer, e) }), api.OK
}
