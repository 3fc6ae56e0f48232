package flow

import "wigmaker/api"

// maxPath is the most places of a path that Walk takes.
const maxPath = 1000

// steps has the way from a place to its neighbor in each direction.
var steps = [8]api.Place{{X: 1, Y: 0}, {X: 1, Y: 1}, {X: 0, Y: 1}, {X: -1, Y: 1}, {X: -1, Y: 0}, {X: -1, Y: -1}, {X: 0, Y: -1}, {X: 1, Y: -1}}

// Walk returns what turns along a path (P3.3).
func Walk(f api.Field, path []api.Place) (int, api.Errno) {
	if e := Validate(f); e != api.OK {
		return 0, e
	}
	if len(path) > maxPath {
		return 0, api.ErrLarge
	}
	for _, p := range path {
		if !isPlace(f, p.X, p.Y) {
			return 0, api.ErrNone
		}
	}
	sum := 0
	for i := 1; i < len(path); i++ {
		s, ok := between(path[i-1], path[i])
		if !ok {
			return 0, api.ErrArg
		}
		sum += s.sign * turning(f, s.edge)
	}
	return sum, api.OK
}

// between returns the edge from a place to a neighbor, and the sign of what
// turns on this way; false if they are not neighbors.
func between(from, to api.Place) (side, bool) {
	switch (api.Place{X: to.X - from.X, Y: to.Y - from.Y}) {
	case steps[api.East]:
		return side{api.Edge{X: from.X, Y: from.Y, Up: 0}, 1}, true
	case steps[api.North]:
		return side{api.Edge{X: from.X, Y: from.Y, Up: 1}, 1}, true
	case steps[api.West]:
		return side{api.Edge{X: to.X, Y: to.Y, Up: 0}, -1}, true
	case steps[api.South]:
		return side{api.Edge{X: to.X, Y: to.Y, Up: 1}, -1}, true
	}
	return side{}, false
}

// Inside returns the sum of the indices of some squares (P3.4).
func Inside(f api.Field, squares []api.Place) (int, api.Errno) {
	if e := validateSquares(f, squares); e != api.OK {
		return 0, e
	}
	sum := 0
	for _, s := range squares {
		sum += index(f, s.X, s.Y)
	}
	return sum, api.OK
}

// Rim returns what turns along the rim of some squares (P3.4).
func Rim(f api.Field, squares []api.Place) (int, api.Errno) {
	if e := validateSquares(f, squares); e != api.OK {
		return 0, e
	}
	uses := map[api.Edge]int{}
	for _, s := range squares {
		for _, r := range rim(s.X, s.Y) {
			uses[r.edge]++
		}
	}
	sum := 0
	for _, s := range squares {
		for _, r := range rim(s.X, s.Y) {
			if uses[r.edge] == 1 {
				sum += r.sign * turning(f, r.edge)
			}
		}
	}
	return sum, api.OK
}

// validateSquares returns the first error of a field and a list of squares.
func validateSquares(f api.Field, squares []api.Place) api.Errno {
	if e := Validate(f); e != api.OK {
		return e
	}
	for _, s := range squares {
		if !isSquare(f, s.X, s.Y) {
			return api.ErrNone
		}
	}
	seen := map[api.Place]bool{}
	for _, s := range squares {
		if seen[s] {
			return api.ErrTwice
		}
		seen[s] = true
	}
	return api.OK
}

// Comb follows the hair from a place (P3.6).
func Comb(f api.Field, x, y int) (path []api.Place, circles bool, e api.Errno) {
	if e := Validate(f); e != api.OK {
		return nil, false, e
	}
	if !isPlace(f, x, y) {
		return nil, false, api.ErrNone
	}
	at := api.Place{X: x, Y: y}
follow:
	for isPlace(f, at.X, at.Y) {
		for _, p := range path {
			if p == at {
				circles = true
				break follow
			}
		}
		path = append(path, at)
		step := steps[f.Dirs[at.Y*f.W+at.X]]
		at = api.Place{X: at.X + step.X, Y: at.Y + step.Y}
	}
	return path, circles, api.OK
}
