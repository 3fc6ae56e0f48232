package surface_test

import (
	"fmt"
	"math"
	"math/rand"
	"slices"
	"strings"
	"testing"

	"wigmaker/api"
	"wigmaker/surface"
)

func triangle(side int) api.Piece {
	return api.Piece{Sides: []int{side, side, side}, Angles: []int{60, 60, 60}}
}

func square(side int) api.Piece {
	return api.Piece{Sides: []int{side, side, side, side}, Angles: []int{90, 90, 90, 90}}
}

func caps(ease int, pieces []api.Piece, seams ...api.Seam) api.Cap {
	return api.Cap{Pieces: pieces, Seams: seams, Ease: ease}
}

// show writes a value so that nil and empty lists are alike.
func show(x any) string {
	return fmt.Sprintf("%v", x)
}

func isZero(c api.Cap) bool {
	return show(c) == show(api.Cap{})
}

func clone(c api.Cap) api.Cap {
	d := api.Cap{Seams: slices.Clone(c.Seams), Ease: c.Ease}
	for _, p := range c.Pieces {
		d.Pieces = append(d.Pieces, api.Piece{Sides: slices.Clone(p.Sides), Angles: slices.Clone(p.Angles)})
	}
	return d
}

// somePiece has sides of at most 3 different lengths, so that many fit.
func somePiece(r *rand.Rand) api.Piece {
	k := 3 + r.Intn(4)
	var p api.Piece
	for range k {
		p.Sides = append(p.Sides, 10+r.Intn(3))
		p.Angles = append(p.Angles, 180*(k-2)/k)
	}
	for range 10 {
		i, j, by := r.Intn(k), r.Intn(k), r.Intn(100)
		if p.Angles[i] > by && p.Angles[j]+by < 360 && i != j {
			p.Angles[i] -= by
			p.Angles[j] += by
		}
	}
	return p
}

func someCap(r *rand.Rand) api.Cap {
	c := api.Cap{Ease: r.Intn(3)}
	for range 1 + r.Intn(8) {
		c.Pieces = append(c.Pieces, somePiece(r))
	}
	side := func() (int, int) {
		piece := r.Intn(len(c.Pieces))
		return piece, r.Intn(len(c.Pieces[piece].Sides))
	}
	for range r.Intn(60) {
		var s api.Seam
		s.A, s.I = side()
		s.B, s.J = side()
		c.Seams = append(c.Seams, s)
		if surface.Validate(c) != api.OK {
			c.Seams = c.Seams[:len(c.Seams)-1]
		}
	}
	return c
}

// model has the sides of a cap by number, found without the package.
type model struct {
	length, angle, next, before, partner, piece []int
}

func build(c api.Cap) model {
	var m model
	var first []int
	for p, piece := range c.Pieces {
		start, k := len(m.length), len(piece.Sides)
		first = append(first, start)
		for i := range k {
			m.length = append(m.length, piece.Sides[i])
			m.angle = append(m.angle, piece.Angles[i])
			m.next = append(m.next, start+(i+1)%k)
			m.before = append(m.before, start+(i-1+k)%k)
			m.partner = append(m.partner, -1)
			m.piece = append(m.piece, p)
		}
	}
	for _, s := range c.Seams {
		a, b := first[s.A]+s.I, first[s.B]+s.J
		m.partner[a], m.partner[b] = b, a
	}
	return m
}

// classes joins numbers until nothing changes, and returns the sets.
func classes(n int, pairs [][2]int) [][]int {
	label := make([]int, n)
	for i := range label {
		label[i] = i
	}
	for changed := true; changed; {
		changed = false
		for _, p := range pairs {
			least := min(label[p[0]], label[p[1]])
			changed = changed || label[p[0]] != least || label[p[1]] != least
			label[p[0]], label[p[1]] = least, least
		}
	}
	var sets [][]int
	for i := range label {
		var set []int
		for j := range label {
			if label[j] == i {
				set = append(set, j)
			}
		}
		if set != nil {
			sets = append(sets, set)
		}
	}
	return sets
}

func (m model) points() []api.Point {
	var pairs [][2]int
	for s, q := range m.partner {
		if q >= 0 {
			pairs = append(pairs, [2]int{s, m.next[q]}, [2]int{m.next[s], q})
		}
	}
	var list []api.Point
	for _, set := range classes(len(m.length), pairs) {
		p := api.Point{Corners: set, Inner: true}
		for _, corner := range set {
			p.Angle += m.angle[corner]
			p.Inner = p.Inner && m.partner[corner] >= 0 && m.partner[m.before[corner]] >= 0
		}
		p.Defect = 180 - p.Angle
		if p.Inner {
			p.Defect = 360 - p.Angle
		}
		list = append(list, p)
	}
	return list
}

func (m model) loops() [][]int {
	done := make([]bool, len(m.length))
	var list [][]int
	for first, q := range m.partner {
		if q >= 0 || done[first] {
			continue
		}
		var loop []int
		for s := first; !done[s]; {
			done[s] = true
			loop = append(loop, s)
			s = m.next[s]
			for m.partner[s] >= 0 {
				s = m.next[m.partner[s]]
			}
		}
		list = append(list, loop)
	}
	return list
}

// badCaps has caps with the errors of Validate.
func badCaps() []struct {
	c    api.Cap
	want api.Errno
} {
	two := []api.Piece{triangle(10), triangle(12)}
	with := func(p api.Piece) api.Cap { return caps(0, []api.Piece{triangle(10), p}) }
	nine := slices.Repeat([]api.Piece{triangle(10)}, 9)
	return []struct {
		c    api.Cap
		want api.Errno
	}{
		{api.Cap{}, api.ErrLarge},
		{caps(-1, nil), api.ErrLarge},
		{caps(0, nine), api.ErrLarge},
		{caps(9, append(nine, api.Piece{})), api.ErrLarge},
		{caps(-1, two), api.ErrArg},
		{caps(6, two), api.ErrArg},
		{caps(6, two, api.Seam{A: 7}), api.ErrArg},
		{with(api.Piece{}), api.ErrArg},
		{with(api.Piece{Sides: []int{1, 1}, Angles: []int{90, 90}}), api.ErrArg},
		{with(api.Piece{Sides: []int{1, 1}, Angles: []int{-90, 90}}), api.ErrArg},
		{with(api.Piece{Sides: slices.Repeat([]int{9}, 7), Angles: []int{128, 128, 128, 129, 129, 129, 129}}), api.ErrArg},
		{with(api.Piece{Sides: []int{1, 1, 1}, Angles: []int{60, 60, 30, 30}}), api.ErrArg},
		{with(api.Piece{Sides: []int{1, 1, 1}, Angles: []int{90, 90}}), api.ErrArg},
		{with(api.Piece{Sides: []int{1, 1, 1}}), api.ErrArg},
		{with(api.Piece{Sides: []int{1, 0, 1}, Angles: []int{60, 60, 60}}), api.ErrArg},
		{with(api.Piece{Sides: []int{1, 1, 201}, Angles: []int{60, 60, 60}}), api.ErrArg},
		{with(api.Piece{Sides: []int{math.MinInt, 1, 1}, Angles: []int{60, 60, 60}}), api.ErrArg},
		{with(api.Piece{Sides: []int{1, 1, 1}, Angles: []int{90, 90, 0}}), api.ErrArg},
		{with(api.Piece{Sides: []int{1, 1, 1}, Angles: []int{60, 60, 61}}), api.ErrArg},
		{with(api.Piece{Sides: []int{1, 1, 1}, Angles: []int{60, 59, 60}}), api.ErrArg},
		{with(api.Piece{Sides: []int{1, 1, 1, 1}, Angles: []int{360, -20, 10, 10}}), api.ErrArg},
		{with(api.Piece{Sides: []int{9, 9, 9, 9, 9}, Angles: []int{360, 60, 60, 30, 30}}), api.ErrArg},
		{with(api.Piece{Sides: []int{1, 1, 1, 1}, Angles: []int{60, 60, 60, 60}}), api.ErrArg},
		{caps(0, []api.Piece{triangle(0), triangle(10)}, api.Seam{A: 5}), api.ErrArg},
		{caps(0, two, api.Seam{A: -1, I: 0, B: 1, J: 0}), api.ErrNone},
		{caps(0, two, api.Seam{A: 2, I: 0, B: 1, J: 0}), api.ErrNone},
		{caps(0, two, api.Seam{A: 0, I: -1, B: 1, J: 0}), api.ErrNone},
		{caps(0, two, api.Seam{A: 0, I: 3, B: 1, J: 0}), api.ErrNone},
		{caps(0, two, api.Seam{A: 0, I: 0, B: -1, J: 0}), api.ErrNone},
		{caps(0, two, api.Seam{A: 0, I: 0, B: 2, J: 0}), api.ErrNone},
		{caps(0, two, api.Seam{A: 0, I: 0, B: 1, J: -1}), api.ErrNone},
		{caps(0, two, api.Seam{A: 0, I: 0, B: 1, J: 3}), api.ErrNone},
		{caps(0, two, api.Seam{A: math.MaxInt, I: math.MinInt, B: 1, J: 3}), api.ErrNone},
		{caps(1, two, api.Seam{A: 0, I: 0, B: 1, J: 0}), api.ErrFit},
		{caps(1, two, api.Seam{A: 1, I: 2, B: 0, J: 1}), api.ErrFit},
		{caps(2, two, api.Seam{A: 0, I: 0, B: 0, J: 0}), api.ErrTwice},
		{caps(2, two, api.Seam{A: 0, I: 0, B: 1, J: 0}, api.Seam{A: 0, I: 0, B: 1, J: 1}), api.ErrTwice},
		{caps(2, two, api.Seam{A: 0, I: 0, B: 1, J: 0}, api.Seam{A: 1, I: 1, B: 0, J: 0}), api.ErrTwice},
		{caps(2, two, api.Seam{A: 0, I: 0, B: 1, J: 0}, api.Seam{A: 1, I: 0, B: 0, J: 1}), api.ErrTwice},
		{caps(2, two, api.Seam{A: 0, I: 0, B: 1, J: 0}, api.Seam{A: 0, I: 1, B: 1, J: 0}), api.ErrTwice},
		// One by one: the first seam with an error decides.
		{caps(1, two, api.Seam{A: 0, I: 0, B: 1, J: 0}, api.Seam{A: 7}), api.ErrFit},
		{caps(2, two, api.Seam{A: 0, I: 0, B: 0, J: 0}, api.Seam{A: 7}), api.ErrTwice},
		{caps(1, two, api.Seam{A: 0, I: 0, B: 0, J: 1}, api.Seam{A: 0, I: 0, B: 1, J: 1}), api.ErrTwice},
		{caps(0, two, api.Seam{A: 7}, api.Seam{A: 0, I: 0, B: 1, J: 0}), api.ErrNone},
	}
}

func TestP2_1Validate(t *testing.T) {
	for i, x := range badCaps() {
		if e := surface.Validate(x.c); e != x.want {
			t.Errorf("%d: %v, want %v", i, e, x.want)
		}
	}
	two := []api.Piece{triangle(10), triangle(12)}
	six := api.Piece{Sides: []int{1, 2, 200, 4, 5, 6}, Angles: []int{359, 1, 90, 90, 90, 90}}
	for i, c := range []api.Cap{
		caps(0, slices.Repeat([]api.Piece{triangle(200)}, 8)),
		caps(5, []api.Piece{six, triangle(1)}),
		caps(2, two, api.Seam{A: 0, I: 0, B: 1, J: 0}, api.Seam{A: 1, I: 2, B: 0, J: 2}),
		caps(0, []api.Piece{triangle(3)}, api.Seam{A: 0, I: 0, B: 0, J: 1}),
		caps(5, []api.Piece{triangle(3), triangle(8)}, api.Seam{A: 0, I: 0, B: 1, J: 1}),
		caps(5, []api.Piece{triangle(8), triangle(3)}, api.Seam{A: 0, I: 0, B: 1, J: 1}),
	} {
		if e := surface.Validate(c); e != api.OK {
			t.Errorf("%d: %v", i, e)
		}
	}
}

// TestP2_1Common checks that every function has the errors of Validate first,
// and only zero values with them.
func TestP2_1Common(t *testing.T) {
	for i, x := range badCaps() {
		got := map[string]api.Errno{}
		zero := map[string]bool{}
		note := func(name string, e api.Errno, is bool) { got[name], zero[name] = e, is }
		points, e := surface.Points(x.c)
		note("Points", e, len(points) == 0)
		loops, e := surface.Loops(x.c)
		note("Loops", e, len(loops) == 0)
		n, e := surface.Parts(x.c)
		note("Parts", e, n == 0)
		n, e = surface.Euler(x.c)
		note("Euler", e, n == 0)
		n, e = surface.Handles(x.c)
		note("Handles", e, n == 0)
		n, e = surface.Missing(x.c)
		note("Missing", e, n == 0)
		list, e := surface.Hairline(x.c)
		note("Hairline", e, len(list) == 0)
		c, e := surface.Sew(x.c, api.Seam{A: -1})
		note("Sew", e, isZero(c))
		c, e = surface.Unsew(x.c, -1)
		note("Unsew", e, isZero(c))
		c, e = surface.Dart(x.c, -1, 0)
		note("Dart", e, isZero(c))
		c, e = surface.Split(x.c, -1, 0, 0, 0, 0)
		note("Split", e, isZero(c))
		ok, e := surface.Wears(x.c, api.Head{})
		note("Wears", e, !ok)
		text, e := surface.Format(x.c)
		note("Format", e, text == "")
		for name, e := range got {
			if e != x.want || !zero[name] {
				t.Errorf("%d: %s: %v, want %v; zero values: %v", i, name, e, x.want, zero[name])
			}
		}
	}
}

// examples has the caps of the chapter's examples, and the sphere.
func examples() []api.Cap {
	return []api.Cap{
		caps(0, []api.Piece{triangle(10), triangle(10)}, api.Seam{A: 0, I: 0, B: 1, J: 0}),
		caps(0, []api.Piece{square(10)}, api.Seam{A: 0, I: 0, B: 0, J: 2}),
		caps(0, []api.Piece{square(10)}, api.Seam{A: 0, I: 0, B: 0, J: 2}, api.Seam{A: 0, I: 1, B: 0, J: 3}),
		caps(0, []api.Piece{triangle(7), triangle(7)}, api.Seam{A: 0, I: 0, B: 1, J: 0}, api.Seam{A: 0, I: 1, B: 1, J: 2}, api.Seam{A: 0, I: 2, B: 1, J: 1}),
		caps(0, []api.Piece{square(9), square(9)}, api.Seam{A: 1, I: 0, B: 1, J: 1}),
	}
}

func TestP2_2Examples(t *testing.T) {
	for i, x := range []struct {
		points                             string
		parts, euler, missing, handles, nr int
		hairline                           string
	}{
		{"[{[0 4] false 120 60} {[1 3] false 120 60} {[2] false 60 120} {[5] false 60 120}]", 1, 1, 360, 0, 1, "[40]"},
		{"[{[0 3] false 180 0} {[1 2] false 180 0}]", 1, 0, 0, 0, 2, "[10 10]"},
		{"[{[0 1 2 3] true 360 0}]", 1, 0, 0, 1, 0, "[]"},
		{"[{[0 4] true 120 240} {[1 3] true 120 240} {[2 5] true 120 240}]", 1, 2, 720, 0, 0, "[]"},
		{"[{[0] false 90 90} {[1] false 90 90} {[2] false 90 90} {[3] false 90 90} {[4 6] false 180 0} {[5] true 90 270} {[7] false 90 90}]", 2, 2, 720, 0, 2, "[36 18]"},
	} {
		c := examples()[i]
		points, e := surface.Points(c)
		if e != api.OK || show(points) != x.points {
			t.Errorf("%d: %v, %v", i, points, e)
		}
		for name, call := range map[string]struct {
			f    func(api.Cap) (int, api.Errno)
			want int
		}{"Parts": {surface.Parts, x.parts}, "Euler": {surface.Euler, x.euler}, "Missing": {surface.Missing, x.missing}, "Handles": {surface.Handles, x.handles}} {
			if n, e := call.f(c); e != api.OK || n != call.want {
				t.Errorf("%d: %s: %d, %v", i, name, n, e)
			}
		}
		loops, e := surface.Loops(c)
		if e != api.OK || len(loops) != x.nr {
			t.Errorf("%d: %v, %v", i, loops, e)
		}
		if list, e := surface.Hairline(c); e != api.OK || show(list) != x.hairline {
			t.Errorf("%d: %v, %v", i, list, e)
		}
	}
	if loops, _ := surface.Loops(examples()[0]); show(loops) != "[[1 2 4 5]]" {
		t.Error(loops)
	}
}

// TestP2_2Model compares with the definitions, on many caps.
func TestP2_2Model(t *testing.T) {
	r := rand.New(rand.NewSource(22))
	handled, closed := 0, 0
	for range 3000 {
		c := someCap(r)
		m := build(c)
		want := m.points()
		if points, e := surface.Points(c); e != api.OK || show(points) != show(want) {
			t.Fatal(c, points, want, e)
		}
		missing := 0
		for _, p := range want {
			missing += p.Defect
		}
		if n, e := surface.Missing(c); e != api.OK || n != missing {
			t.Fatal(c, n, missing, e)
		}
		var pairs [][2]int
		for _, s := range c.Seams {
			pairs = append(pairs, [2]int{s.A, s.B})
		}
		parts := len(classes(len(c.Pieces), pairs))
		if n, e := surface.Parts(c); e != api.OK || n != parts {
			t.Fatal(c, n, parts, e)
		}
		euler := len(want) - len(m.length) + len(c.Seams) + len(c.Pieces)
		if n, e := surface.Euler(c); e != api.OK || n != euler || missing != 360*euler {
			t.Fatal(c, n, euler, missing, e)
		}
		n, e := surface.Handles(c)
		if e != api.OK || n < 0 || 2*n != 2*parts-euler-len(m.loops()) {
			t.Fatal(c, n, e)
		}
		handled += min(n, 1)
		closed += min(len(m.loops()), 1)
	}
	if handled < 100 || closed < 100 {
		t.Error("the caps are too much alike", handled, closed)
	}
}

func TestP2_3Loops(t *testing.T) {
	r := rand.New(rand.NewSource(23))
	for range 3000 {
		c := someCap(r)
		m := build(c)
		loops, e := surface.Loops(c)
		if e != api.OK || show(loops) != show(m.loops()) {
			t.Fatal(c, loops, m.loops(), e)
		}
		var lengths []int
		sides := 0
		for _, loop := range loops {
			sum := 0
			for _, s := range loop {
				sum += m.length[s]
			}
			lengths = append(lengths, sum)
			sides += len(loop)
		}
		if sides != len(m.length)-2*len(c.Seams) {
			t.Fatal(c, loops)
		}
		if list, e := surface.Hairline(c); e != api.OK || !slices.Equal(list, lengths) {
			t.Fatal(c, list, lengths, e)
		}
	}
}

func TestP2_4SewUnsew(t *testing.T) {
	r := rand.New(rand.NewSource(24))
	for range 2000 {
		c := someCap(r)
		before := show(c)
		s := api.Seam{A: r.Intn(9) - 1, I: r.Intn(7), B: r.Intn(8), J: r.Intn(6)}
		d := clone(c)
		d.Seams = append(d.Seams, s)
		want := surface.Validate(d)
		got, e := surface.Sew(c, s)
		if e != want || e == api.OK && show(got) != show(d) || e != api.OK && !isZero(got) || show(c) != before {
			t.Fatal(c, s, got, e, want)
		}
		for _, i := range []int{-1, len(c.Seams), math.MinInt, math.MaxInt} {
			if got, e := surface.Unsew(c, i); e != api.ErrNone || !isZero(got) {
				t.Fatal(c, i, got, e)
			}
		}
		for i := range c.Seams {
			d := clone(c)
			d.Seams = slices.Delete(d.Seams, i, i+1)
			if got, e := surface.Unsew(c, i); e != api.OK || show(got) != show(d) || show(c) != before {
				t.Fatal(c, i, got, e)
			}
		}
	}
}

func TestP2_4Dart(t *testing.T) {
	r := rand.New(rand.NewSource(25))
	for range 500 {
		c := someCap(r)
		before := show(c)
		corner := 0
		for p, piece := range c.Pieces {
			for i := range piece.Angles {
				next := (i + 1) % len(piece.Angles)
				most := min(piece.Angles[i]-1, 359-piece.Angles[next])
				for _, wedge := range []int{math.MinInt, -1, 0, 1, most, most + 1, 359, math.MaxInt} {
					got, e := surface.Dart(c, corner, wedge)
					if wedge < 1 || wedge > most {
						if e != api.ErrArg || !isZero(got) {
							t.Fatal(c, corner, wedge, got, e)
						}
						continue
					}
					d := clone(c)
					d.Pieces[p].Angles[i] -= wedge
					d.Pieces[p].Angles[next] += wedge
					if e != api.OK || show(got) != show(d) || show(c) != before {
						t.Fatal(c, corner, wedge, got, e)
					}
				}
				corner++
			}
		}
		for _, i := range []int{-1, corner, math.MinInt, math.MaxInt} {
			if got, e := surface.Dart(c, i, 0); e != api.ErrNone || !isZero(got) {
				t.Fatal(c, i, got, e)
			}
		}
	}
}

func TestP2_5Example(t *testing.T) {
	six := api.Piece{Sides: []int{11, 12, 13, 14, 15, 16}, Angles: []int{120, 121, 122, 118, 119, 120}}
	c := caps(3, []api.Piece{triangle(13), six, triangle(11)},
		api.Seam{A: 1, I: 0, B: 2, J: 1}, api.Seam{A: 0, I: 1, B: 1, J: 3}, api.Seam{A: 1, I: 5, B: 0, J: 0}, api.Seam{A: 1, I: 1, B: 1, J: 2})
	before := show(c)
	// From the corner 1 to the corner 4: sides 1 2 3, then the line.
	first := api.Piece{Sides: []int{12, 13, 14, 50}, Angles: []int{50, 122, 118, 70}}
	second := api.Piece{Sides: []int{15, 16, 11, 50}, Angles: []int{49, 120, 120, 71}}
	want := caps(3, []api.Piece{triangle(13), first, triangle(11), second},
		api.Seam{A: 3, I: 2, B: 2, J: 1}, api.Seam{A: 0, I: 1, B: 1, J: 2}, api.Seam{A: 3, I: 1, B: 0, J: 0}, api.Seam{A: 1, I: 0, B: 1, J: 1}, api.Seam{A: 1, I: 3, B: 3, J: 3})
	if got, e := surface.Split(c, 1, 1, 4, 50, 50); e != api.OK || show(got) != show(want) {
		t.Error(got, e)
	}
	// From 4 to 1, counted on through 0: sides 4 5 0, then the line.
	first = api.Piece{Sides: []int{15, 16, 11, 200}, Angles: []int{60, 120, 120, 60}}
	second = api.Piece{Sides: []int{12, 13, 14, 200}, Angles: []int{61, 122, 118, 59}}
	want = caps(3, []api.Piece{triangle(13), first, triangle(11), second},
		api.Seam{A: 1, I: 2, B: 2, J: 1}, api.Seam{A: 0, I: 1, B: 3, J: 2}, api.Seam{A: 1, I: 1, B: 0, J: 0}, api.Seam{A: 3, I: 0, B: 3, J: 1}, api.Seam{A: 1, I: 3, B: 3, J: 3})
	if got, e := surface.Split(c, 1, 4, 1, 200, 60); e != api.OK || show(got) != show(want) {
		t.Error(got, e)
	}
	if show(c) != before {
		t.Error("the argument was changed")
	}
}

func TestP2_5Errors(t *testing.T) {
	c := caps(0, []api.Piece{triangle(9), square(9)})
	full := caps(0, slices.Repeat([]api.Piece{square(9)}, 8))
	for i, x := range []struct {
		c                           api.Cap
		piece, i, j, length, angles int
		want                        api.Errno
	}{
		{c, -1, 0, 2, 9, 45, api.ErrNone}, {c, 2, 0, 2, 9, 45, api.ErrNone}, {c, 1, -1, 2, 9, 45, api.ErrNone}, {c, 1, 4, 2, 9, 45, api.ErrNone},
		{c, 1, 0, -1, 9, 45, api.ErrNone}, {c, 1, 0, 4, 9, 45, api.ErrNone}, {c, 0, 3, 3, 0, 0, api.ErrNone}, {full, 8, 0, 0, 0, 0, api.ErrNone},
		{c, 1, 0, 0, 9, 45, api.ErrArg}, {c, 1, 0, 1, 9, 45, api.ErrArg}, {c, 1, 1, 0, 9, 45, api.ErrArg}, {c, 1, 0, 3, 9, 45, api.ErrArg}, {c, 1, 3, 0, 9, 45, api.ErrArg},
		{c, 0, 0, 2, 9, 30, api.ErrArg}, {c, 0, 1, 2, 9, 30, api.ErrArg}, {c, 1, 0, 2, 0, 45, api.ErrArg}, {c, 1, 0, 2, 201, 45, api.ErrArg},
		{c, 1, 0, 2, 9, 0, api.ErrArg}, {c, 1, 0, 2, 9, 90, api.ErrArg}, {c, 1, 0, 2, 9, 360, api.ErrArg}, {c, 1, 0, 2, 9, -45, api.ErrArg},
		{c, 1, 0, 2, 9, math.MinInt, api.ErrArg}, {c, 1, 0, 2, 9, math.MaxInt, api.ErrArg}, {c, 1, math.MinInt, math.MaxInt, 9, 9, api.ErrNone},
		{full, 0, 0, 1, 9, 45, api.ErrArg}, {full, 0, 0, 2, 9, 90, api.ErrArg}, {full, 0, 0, 2, 9, 45, api.ErrLarge},
	} {
		if got, e := surface.Split(x.c, x.piece, x.i, x.j, x.length, x.angles); e != x.want || !isZero(got) {
			t.Errorf("%d: %v, %v", i, got, e)
		}
	}
	seven := caps(0, slices.Repeat([]api.Piece{square(9)}, 7))
	for _, angle := range []int{1, 89} {
		if got, e := surface.Split(seven, 6, 3, 1, 200, angle); e != api.OK || len(got.Pieces) != 8 {
			t.Error(got, e)
		}
	}
	if got, e := surface.Split(c, 1, 2, 0, 1, 45); e != api.OK || got.Pieces[2].Sides[2] != 1 {
		t.Error(got, e)
	}
	// Each of the four angles in turn is not from 1 to 359.
	kite := func(a, b, c, d int) api.Cap {
		return caps(0, []api.Piece{{Sides: []int{9, 9, 9, 9}, Angles: []int{a, b, c, d}}})
	}
	for i, x := range []struct {
		c     api.Cap
		angle int
		want  api.Errno
	}{
		{kite(20, 170, 20, 150), 9, api.OK}, {kite(20, 170, 20, 150), 10, api.ErrArg}, // the first part at j
		{kite(20, 150, 20, 170), 10, api.ErrArg}, {kite(20, 150, 20, 170), 11, api.OK}, // the second part at i
		{kite(170, 20, 150, 20), 9, api.ErrArg}, {kite(170, 20, 150, 20), 10, api.ErrArg}, {kite(170, 20, 150, 20), 11, api.OK}, // the second part at j
		{kite(100, 20, 220, 20), 100, api.ErrArg}, {kite(100, 20, 220, 20), 99, api.OK},
	} {
		if got, e := surface.Split(x.c, 0, 0, 2, 9, x.angle); e != x.want || e != api.OK && !isZero(got) {
			t.Errorf("%d: %v, %v", i, got, e)
		}
	}
}

// TestP2_5Stays checks the consequences, and where each seam goes.
func TestP2_5Stays(t *testing.T) {
	r := rand.New(rand.NewSource(26))
	done := 0
	for range 6000 {
		c := someCap(r)
		piece := r.Intn(len(c.Pieces))
		k := len(c.Pieces[piece].Sides)
		got, e := surface.Split(c, piece, r.Intn(k), r.Intn(k), 1+r.Intn(200), 1+r.Intn(150))
		if e != api.OK {
			continue
		}
		done++
		if e := surface.Validate(got); e != api.OK || len(got.Pieces) != len(c.Pieces)+1 || len(got.Seams) != len(c.Seams)+1 || got.Ease != c.Ease {
			t.Fatal(c, got, e)
		}
		for name, f := range map[string]func(api.Cap) (int, api.Errno){"Parts": surface.Parts, "Euler": surface.Euler, "Missing": surface.Missing, "Handles": surface.Handles} {
			x, _ := f(c)
			if y, _ := f(got); x != y {
				t.Fatal(name, c, got)
			}
		}
		x, _ := surface.Hairline(c)
		y, _ := surface.Hairline(got)
		slices.Sort(x)
		slices.Sort(y)
		if !slices.Equal(x, y) {
			t.Fatal(c, got)
		}
	}
	if done < 300 {
		t.Error("few were split:", done)
	}
}

func TestP2_6Head(t *testing.T) {
	good := api.Head{Round: 56, Front: 34, Ears: 32, Brow: 30, Back: 26, Nape: 12}
	for i, x := range []struct {
		change func(*api.Head)
		want   api.Errno
	}{
		{func(h *api.Head) {}, api.OK},
		{func(h *api.Head) { h.Round = 0 }, api.ErrArg}, {func(h *api.Head) { h.Round = 201 }, api.ErrArg},
		{func(h *api.Head) { h.Front = 0 }, api.ErrArg}, {func(h *api.Head) { h.Front = 201 }, api.ErrArg},
		{func(h *api.Head) { h.Ears = 0 }, api.ErrArg}, {func(h *api.Head) { h.Ears = 201 }, api.ErrArg},
		{func(h *api.Head) { h.Brow = 0 }, api.ErrArg}, {func(h *api.Head) { h.Brow = 201 }, api.ErrArg},
		{func(h *api.Head) { h.Back = 0 }, api.ErrArg}, {func(h *api.Head) { h.Back = 201 }, api.ErrArg},
		{func(h *api.Head) { h.Nape = 0 }, api.ErrArg}, {func(h *api.Head) { h.Nape = 201 }, api.ErrArg},
		{func(h *api.Head) { h.Front, h.Nape = 56, -1 }, api.ErrArg}, {func(h *api.Head) { h.Nape = math.MinInt }, api.ErrArg},
		{func(h *api.Head) { h.Front = 55 }, api.OK}, {func(h *api.Head) { h.Front = 56 }, api.ErrRule},
		{func(h *api.Head) { h.Ears = 1 }, api.OK}, {func(h *api.Head) { h.Ears = 55 }, api.OK}, {func(h *api.Head) { h.Ears = 56 }, api.ErrRule},
		{func(h *api.Head) { h.Brow = 55 }, api.OK}, {func(h *api.Head) { h.Brow = 56 }, api.ErrRule},
		{func(h *api.Head) { h.Back = 55 }, api.OK}, {func(h *api.Head) { h.Back = 56 }, api.ErrRule},
		{func(h *api.Head) { h.Nape = 25 }, api.OK}, {func(h *api.Head) { h.Nape = 26 }, api.ErrRule},
		{func(h *api.Head) { h.Brow = 29 }, api.ErrRule}, {func(h *api.Head) { h.Back = 25 }, api.ErrRule},
		{func(h *api.Head) { h.Front = 28 }, api.OK}, {func(h *api.Head) { h.Front = 27 }, api.ErrRule},
		{func(h *api.Head) { *h = api.Head{Round: 200, Front: 199, Ears: 199, Brow: 199, Back: 199, Nape: 198} }, api.OK},
		{func(h *api.Head) { *h = api.Head{Round: 200, Front: 199, Ears: 199, Brow: 199, Back: 200, Nape: 199} }, api.ErrRule},
	} {
		h := good
		x.change(&h)
		if e := surface.ValidateHead(h); e != x.want {
			t.Errorf("%d: %v, want %v", i, e, x.want)
		}
		size, over, e := surface.Block(h, []int{5})
		if e != x.want || e == api.OK && (size != 5 || over != h.Round-5) || e != api.OK && size+over != 0 {
			t.Errorf("%d: Block: %d, %d, %v", i, size, over, e)
		}
		if _, _, e := surface.Block(h, []int{0}); x.want != api.OK && e != x.want {
			t.Errorf("%d: Block: %v", i, e)
		}
		if ok, e := surface.Wears(caps(0, []api.Piece{triangle(1)}), h); e != x.want || ok {
			t.Errorf("%d: Wears: %v, %v", i, ok, e)
		}
	}
}

func TestP2_6Block(t *testing.T) {
	h := api.Head{Round: 56, Front: 34, Ears: 32, Brow: 30, Back: 26, Nape: 12}
	for i, x := range []struct {
		sizes      []int
		size, over int
		want       api.Errno
	}{
		{[]int{50, 54, 58}, 54, 2, api.OK}, {[]int{56}, 56, 0, api.OK}, {[]int{1, 56, 57, 200}, 56, 0, api.OK}, {[]int{1}, 1, 55, api.OK},
		{nil, 0, 0, api.ErrNone}, {[]int{57, 60}, 0, 0, api.ErrNone},
		{[]int{0}, 0, 0, api.ErrArg}, {[]int{-5, 50}, 0, 0, api.ErrArg}, {[]int{50, 201}, 0, 0, api.ErrArg}, {[]int{50, 50}, 0, 0, api.ErrArg},
		{[]int{54, 50}, 0, 0, api.ErrArg}, {[]int{60, 59}, 0, 0, api.ErrArg}, {[]int{50, math.MaxInt}, 0, 0, api.ErrArg},
	} {
		if size, over, e := surface.Block(h, x.sizes); size != x.size || over != x.over || e != x.want {
			t.Errorf("%d: %d, %d, %v", i, size, over, e)
		}
	}
}

func TestP2_6Wears(t *testing.T) {
	h := api.Head{Round: 40, Front: 34, Ears: 32, Brow: 30, Back: 26, Nape: 12}
	one := func(a, b, c int) api.Cap {
		return caps(0, []api.Piece{{Sides: []int{a, b, c}, Angles: []int{60, 60, 60}}})
	}
	ring := func(side, n int) api.Cap {
		return caps(0, []api.Piece{{Sides: []int{7, side, 7, n}, Angles: []int{90, 90, 90, 90}}}, api.Seam{A: 0, I: 0, B: 0, J: 2})
	}
	cuff := caps(0, []api.Piece{square(10), {Sides: []int{10, 20, 20}, Angles: []int{60, 60, 60}}},
		api.Seam{A: 0, I: 0, B: 1, J: 0}, api.Seam{A: 0, I: 1, B: 0, J: 3})
	torus := caps(0, []api.Piece{{Sides: []int{10, 20, 10, 20, 40}, Angles: []int{108, 108, 108, 108, 108}}},
		api.Seam{A: 0, I: 0, B: 0, J: 2}, api.Seam{A: 0, I: 1, B: 0, J: 3})
	for i, x := range []struct {
		c    api.Cap
		want bool
	}{
		{one(13, 13, 13), false}, {one(13, 13, 14), true}, {one(15, 15, 15), true}, {one(15, 15, 16), false},
		{ring(40, 3), true}, {ring(3, 45), true}, {ring(41, 42), true}, {ring(39, 39), false}, {ring(40, 46), false},
		{caps(0, []api.Piece{square(10), square(10)}), false}, {examples()[0], true}, {examples()[2], false}, {examples()[3], false}, {torus, false},
		{cuff, true},
	} {
		if ok, e := surface.Wears(x.c, h); e != api.OK || ok != x.want {
			t.Errorf("%d: %v, %v", i, ok, e)
		}
	}
	if n, _ := surface.Handles(torus); n != 1 {
		t.Error("the torus has handles:", n)
	}
}

func TestP2_7(t *testing.T) {
	c := caps(5, []api.Piece{triangle(10), square(12)}, api.Seam{A: 0, I: 2, B: 1, J: 3}, api.Seam{A: 1, I: 0, B: 1, J: 1})
	want := "ease 5\npiece 10 60 10 60 10 60\npiece 12 90 12 90 12 90 12 90\nseam 0 2 1 3\nseam 1 0 1 1\n"
	if text, e := surface.Format(c); e != api.OK || text != want {
		t.Errorf("%q, %v", text, e)
	}
	r := rand.New(rand.NewSource(27))
	for range 500 {
		c := someCap(r)
		text, e := surface.Format(c)
		if e != api.OK {
			t.Fatal(c, e)
		}
		if d, e := surface.Parse(text); e != api.OK || show(d) != show(c) {
			t.Fatal(c, d, e)
		}
	}
	piece := "piece 10 60 10 60 10 60\n"
	for _, text := range []string{
		"", "\n", "ease 0", "ease 0\n", piece, "ease 0\npiece 10 60 10 60 10 60", "ease 0\n" + piece + "\n", "\nease 0\n" + piece, piece + "ease 0\n",
		"ease 00\n" + piece, "ease +1\n" + piece, "ease 6\n" + piece, "ease -1\n" + piece, "ease\n" + piece, "ease 1 2\n" + piece, "ease 1\nease 1\n" + piece,
		"ease x\n" + piece, "Ease 0\n" + piece, "ease 0 \n" + piece, " ease 0\n" + piece, "ease  0\n" + piece, "ease 0\r\n" + piece, "ease\t0\n" + piece,
		"ease 0\npiece\n", "ease 0\npiece 10 60 10 60 10\n", "ease 0\npiece 10 60 10 60\n", "ease 0\npiece 10 60 10 60 10 61\n", "ease 0\npiece 10 060 10 60 10 60\n",
		"ease 0\n" + strings.Repeat(piece, 9), "ease 0\n" + piece + "seam 0 0 0 1 \n", "ease 0\n" + piece + "seam 0 0 0\n", "ease 0\n" + piece + "seam 0 0 0 1 1\n",
		"ease 0\n" + piece + "seam 0 0 0 0\n", "ease 0\n" + piece + "seam 0 0 0 3\n", "ease 0\n" + piece + "seam 0 0 0 1\n" + piece, "ease 0\n" + piece + "seam 0 0 0 -0\n",
		"ease 0\n" + piece + "seam 0 0 0 99999999999999999999\n", "ease 0\n" + piece + "stitch 0 0 0 1\n", strings.Repeat("\n", 4000),
	} {
		if c, e := surface.Parse(text); e != api.ErrSyntax || !isZero(c) {
			t.Errorf("%q: %v, %v", text, c, e)
		}
	}
	if c, e := surface.Parse(strings.Repeat("\n", 4001)); e != api.ErrLarge || !isZero(c) {
		t.Error(c, e)
	}
}

// TestMemory checks R5: changes of a result change no argument.
func TestMemory(t *testing.T) {
	c := caps(0, []api.Piece{square(10), square(10)}, api.Seam{A: 0, I: 0, B: 1, J: 0}, api.Seam{A: 0, I: 1, B: 1, J: 1})
	c.Seams = append(make([]api.Seam, 0, 9), c.Seams...)
	before := show(c)
	sewn, _ := surface.Sew(c, api.Seam{A: 0, I: 2, B: 1, J: 2})
	unsewn, _ := surface.Unsew(c, 0)
	darted, _ := surface.Dart(c, 1, 5)
	split, _ := surface.Split(c, 0, 0, 2, 5, 30)
	all := show([]api.Cap{sewn, unsewn, darted, split})
	for i, d := range []api.Cap{sewn, unsewn, darted, split} {
		if len(d.Seams) == 0 || len(d.Pieces) < 2 {
			t.Fatal(d)
		}
		others := show([]api.Cap{sewn, unsewn, darted, split}[i+1:])
		for p := range d.Pieces {
			d.Pieces[p].Sides[0], d.Pieces[p].Angles[0] = -1, -1
		}
		d.Seams[0].A = 9
		if show(c) != before || show([]api.Cap{sewn, unsewn, darted, split}[i+1:]) != others {
			t.Fatal("memory is shared", all)
		}
	}
	if c.Seams[:3][2] != (api.Seam{}) {
		t.Error("memory behind the argument was changed")
	}
}
