package knot

import (
	"wigmaker/api"
	"wigmaker/hair"
)

// zoneSum is a zone with its hairs and knots.
type zoneSum struct {
	api.Zone
	hairs, knots int
}

// Validate returns the error of a zone (P4.6).
func Validate(z api.Zone) api.Errno {
	if z.Rows < 0 || z.Rows > maxRows || z.Holes < 0 || z.Holes > maxZoneHoles || z.PerKnot < 1 || z.PerKnot > maxPerKnot || !ValidDensity(z.Density) {
		return api.ErrArg
	}
	return api.OK
}

// add returns the sum of a zone, or the error of Validate.
func add(z api.Zone) (zoneSum, api.Errno) {
	if e := Validate(z); e != api.OK {
		return zoneSum{}, e
	}
	s := zoneSum{Zone: z}
	phase := api.Rat{Num: 0, Den: 1}
	for hole := range s.Holes {
		n := stretch(s.Density, phase, hole, hole+1)
		s.hairs += s.Rows * n
		s.knots += s.Rows * ((n + s.PerKnot - 1) / s.PerKnot)
	}
	return s, api.OK
}

// halves returns the work of a zone in halves of a knot.
func (s zoneSum) halves() int {
	if s.Double {
		return 3 * s.knots
	}
	return 2 * s.knots
}

// addAll returns the hairs and the work (in halves of a knot) of all zones, or
// the first error of the list.
func addAll(l []api.Zone) (hairs, halves int, e api.Errno) {
	if len(l) > api.MaxZones {
		return 0, 0, api.ErrLarge
	}
	for _, z := range l {
		s, e := add(z)
		if e != api.OK {
			return 0, 0, e
		}
		hairs += s.hairs
		halves += s.halves()
	}
	return hairs, halves, api.OK
}

// ZoneHairs returns the number of hairs of a zone (P4.6).
func ZoneHairs(z api.Zone) (int, api.Errno) {
	s, e := add(z)
	return s.hairs, e
}

// ZoneKnots returns the number of knots of a zone (P4.6).
func ZoneKnots(z api.Zone) (int, api.Errno) {
	s, e := add(z)
	return s.knots, e
}

// Minutes returns the minutes of work, for a rate of knots in an hour (P4.7).
func Minutes(l []api.Zone, rate int) (int, api.Errno) {
	_, halves, e := addAll(l)
	if e != api.OK {
		return 0, e
	}
	if rate < 1 || rate > api.MaxRate {
		return 0, api.ErrArg
	}
	return (halves*30 + rate - 1) / rate, api.OK
}

// Wage returns the pay, for an amount for a hundred knots (P4.7).
func Wage(l []api.Zone, farthings int) (int, api.Errno) {
	_, halves, e := addAll(l)
	if e != api.OK {
		return 0, e
	}
	if farthings < 0 || farthings > maxFarthings {
		return 0, api.ErrArg
	}
	pay, rest := halves*farthings/200, halves*farthings%200
	if rest > 100 || rest == 100 && pay%2 == 1 {
		pay++
	}
	return pay, api.OK
}

// Supply reports whether a bundle has hair enough for all zones (P4.7).
func Supply(l []api.Zone, b api.Bundle, least int) (bool, api.Errno) {
	hairs, _, e := addAll(l)
	if e != api.OK {
		return false, e
	}
	have, e := hair.Above(b, least)
	if e != api.OK {
		return false, e
	}
	return have >= hairs, api.OK
}
