package surface

import (
	"iter"
	"slices"

	"wigmaker/api"
)

// free is the partner of a side that is in no seam.
const free = -1

// side is a side of a cap and the corner at its beginning; next, before and
// partner are side numbers.
type side struct {
	length, angle         int
	next, before, partner int
}

// layout has the sides of a valid cap by their numbers, which are the numbers
// of the corners, too.
type layout []side

func lay(c api.Cap) layout {
	var l layout
	var first []int
	for _, p := range c.Pieces {
		start, k := len(l), len(p.Sides)
		first = append(first, start)
		for i := range k {
			l = append(l, side{
				length:  p.Sides[i],
				angle:   p.Angles[i],
				next:    start + (i+1)%k,
				before:  start + (i+k-1)%k,
				partner: free,
			})
		}
	}
	for _, s := range c.Seams {
		a, b := first[s.A]+s.I, first[s.B]+s.J
		l[a].partner, l[b].partner = b, a
	}
	return l
}

// around walks around a point, from one of its corners across the side that
// begins there to the next corner, until that side is free or the walk comes
// back to the first corner.
func (l layout) around(corner int) iter.Seq[int] {
	return func(yield func(int) bool) {
		at := corner
		for yield(at) && l[at].partner != free {
			at = l[l[at].partner].next
			if at == corner {
				return
			}
		}
	}
}

// points returns the points in ascending order of their first corners.
func (l layout) points() []api.Point {
	found := map[int]bool{}
	var list []api.Point
	collect := func(start int, inner bool) {
		p := api.Point{Inner: inner}
		for corner := range l.around(start) {
			found[corner] = true
			p.Corners = append(p.Corners, corner)
			p.Angle += l[corner].angle
		}
		slices.Sort(p.Corners)
		p.Defect = 180 - p.Angle
		if inner {
			p.Defect = 360 - p.Angle
		}
		list = append(list, p)
	}
	// A point at the edge is seen whole only from the corner behind its free
	// side. What is left after these points is inside.
	for corner := range l {
		if l[l[corner].before].partner == free {
			collect(corner, false)
		}
	}
	for corner := range l {
		if !found[corner] {
			collect(corner, true)
		}
	}
	slices.SortFunc(list, func(p, q api.Point) int { return p.Corners[0] - q.Corners[0] })
	return list
}

// loops returns the loops of the edge, each from its smallest side on.
func (l layout) loops() [][]int {
	seen := map[int]bool{}
	var list [][]int
	for first := range l {
		if l[first].partner != free || seen[first] {
			continue
		}
		var loop []int
		for s := first; !seen[s]; s = l.after(s) {
			seen[s] = true
			loop = append(loop, s)
		}
		list = append(list, loop)
	}
	return list
}

// after returns the free side that follows a free side on the edge.
func (l layout) after(s int) int {
	last := s
	for corner := range l.around(l[s].next) {
		last = corner
	}
	return last
}
