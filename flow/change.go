package flow

import (
	"slices"

	"wigmaker/api"
)

// clone copies a field with its lists.
func clone(f api.Field) api.Field {
	f.Dirs = slices.Clone(f.Dirs)
	f.Partings = slices.Clone(f.Partings)
	return f
}

// Set returns the field with another direction at a place (P3.5).
func Set(f api.Field, x, y, dir int) (api.Field, api.Errno) {
	if e := Validate(f); e != api.OK {
		return api.Field{}, e
	}
	if !isPlace(f, x, y) {
		return api.Field{}, api.ErrNone
	}
	g := clone(f)
	g.Dirs[y*f.W+x] = dir
	return checked(g)
}

// Part makes an edge a parting, or no parting if it is one (P3.5).
func Part(f api.Field, e api.Edge) (api.Field, api.Errno) {
	if err := Validate(f); err != api.OK {
		return api.Field{}, err
	}
	if !isEdge(f, e) {
		return api.Field{}, api.ErrNone
	}
	g := clone(f)
	at, is := slices.BinarySearchFunc(g.Partings, e, compareEdges)
	if is {
		g.Partings = slices.Delete(g.Partings, at, at+1)
	} else {
		g.Partings = slices.Insert(g.Partings, at, e)
	}
	return checked(g)
}

// Spin turns all directions (P3.5).
func Spin(f api.Field, k int) (api.Field, api.Errno) {
	if e := Validate(f); e != api.OK {
		return api.Field{}, e
	}
	g := clone(f)
	for i, d := range g.Dirs {
		g.Dirs[i] = eighth(d + k%8)
	}
	return checked(g)
}

// Mirror exchanges left and right (P3.5).
func Mirror(f api.Field) (api.Field, api.Errno) {
	move := func(p api.Place) api.Place { return api.Place{X: f.W - 1 - p.X, Y: p.Y} }
	turn := func(d int) int { return eighth(4 - d) }
	return moved(f, f.W, f.H, move, turn)
}

// Quarter turns the field counterclockwise by a quarter turn (P3.5).
func Quarter(f api.Field) (api.Field, api.Errno) {
	move := func(p api.Place) api.Place { return api.Place{X: f.H - 1 - p.Y, Y: p.X} }
	turn := func(d int) int { return eighth(d + 2) }
	return moved(f, f.H, f.W, move, turn)
}

// moved returns the field of the size w, h to which move takes the places and
// turn the directions.
func moved(f api.Field, w, h int, move func(api.Place) api.Place, turn func(int) int) (api.Field, api.Errno) {
	if e := Validate(f); e != api.OK {
		return api.Field{}, e
	}
	g := api.Field{W: w, H: h, Dirs: make([]int, w*h)}
	for i, d := range f.Dirs {
		p := move(api.Place{X: i % f.W, Y: i / f.W})
		g.Dirs[p.Y*w+p.X] = turn(d)
	}
	for _, e := range f.Partings {
		step := steps[api.East]
		if e.Up == 1 {
			step = steps[api.North]
		}
		from := move(api.Place{X: e.X, Y: e.Y})
		to := move(api.Place{X: e.X + step.X, Y: e.Y + step.Y})
		// Neighbors stay neighbors, so there is always an edge.
		s, _ := between(from, to)
		g.Partings = append(g.Partings, s.edge)
	}
	slices.SortFunc(g.Partings, compareEdges)
	return checked(g)
}

// Beside puts b to the right of a (P3.7).
func Beside(a, b api.Field) (api.Field, api.Errno) {
	if e := Validate(a); e != api.OK {
		return api.Field{}, e
	}
	if e := Validate(b); e != api.OK {
		return api.Field{}, e
	}
	if a.H != b.H {
		return api.Field{}, api.ErrFit
	}
	if a.W+b.W > api.MaxGrid {
		return api.Field{}, api.ErrLarge
	}
	g := api.Field{W: a.W + b.W, H: a.H, Partings: slices.Clone(a.Partings)}
	for y := range a.H {
		g.Dirs = append(g.Dirs, a.Dirs[y*a.W:(y+1)*a.W]...)
		g.Dirs = append(g.Dirs, b.Dirs[y*b.W:(y+1)*b.W]...)
	}
	for _, e := range b.Partings {
		g.Partings = append(g.Partings, api.Edge{X: e.X + a.W, Y: e.Y, Up: e.Up})
	}
	return checked(g)
}

// Crop returns a part of the field (P3.7).
func Crop(f api.Field, x, y, w, h int) (api.Field, api.Errno) {
	if e := Validate(f); e != api.OK {
		return api.Field{}, e
	}
	// Compared without a sum, which a large w or h could overflow.
	if !isPlace(f, x, y) || w < 1 || h < 1 || w > f.W-x || h > f.H-y {
		return api.Field{}, api.ErrArg
	}
	g := api.Field{W: w, H: h}
	for row := y; row < y+h; row++ {
		g.Dirs = append(g.Dirs, f.Dirs[row*f.W+x:row*f.W+x+w]...)
	}
	for _, e := range f.Partings {
		if moved := (api.Edge{X: e.X - x, Y: e.Y - y, Up: e.Up}); isEdge(g, moved) {
			g.Partings = append(g.Partings, moved)
		}
	}
	return checked(g)
}
