package flow_test

import (
	"fmt"
	"math"
	"math/rand"
	"slices"
	"strings"
	"testing"

	"wigmaker/api"
	"wigmaker/flow"
)

// show writes a value so that nil and empty lists are alike.
func show(x any) string {
	return fmt.Sprintf("%v", x)
}

func isZero(f api.Field) bool {
	return f.W == 0 && f.H == 0 && len(f.Dirs) == 0 && len(f.Partings) == 0
}

func clone(f api.Field) api.Field {
	f.Dirs = slices.Clone(f.Dirs)
	f.Partings = slices.Clone(f.Partings)
	return f
}

// field makes a field of rows of digits, the row y = 0 first.
func field(rows string, partings ...api.Edge) api.Field {
	list := strings.Split(rows, "/")
	f := api.Field{W: len(list[0]), H: len(list), Partings: partings}
	for _, c := range strings.Join(list, "") {
		f.Dirs = append(f.Dirs, int(c-'0'))
	}
	return f
}

func plain(w, h int) api.Field {
	return api.Field{W: w, H: h, Dirs: make([]int, w*h)}
}

// ends returns the two places of an edge.
func ends(e api.Edge) (p, q api.Place) {
	p = api.Place{X: e.X, Y: e.Y}
	if e.Up == 1 {
		return p, api.Place{X: e.X, Y: e.Y + 1}
	}
	return p, api.Place{X: e.X + 1, Y: e.Y}
}

// edge returns the edge between two neighbors.
func edge(p, q api.Place) api.Edge {
	if p.X > q.X || p.Y > q.Y {
		p, q = q, p
	}
	if p.Y == q.Y {
		return api.Edge{X: p.X, Y: p.Y}
	}
	return api.Edge{X: p.X, Y: p.Y, Up: 1}
}

func allEdges(f api.Field) []api.Edge {
	var list []api.Edge
	for x := range f.W {
		for y := range f.H {
			if x+1 < f.W {
				list = append(list, api.Edge{X: x, Y: y, Up: 0})
			}
			if y+1 < f.H {
				list = append(list, api.Edge{X: x, Y: y, Up: 1})
			}
		}
	}
	return list
}

func inField(f api.Field, p api.Place) bool {
	return p.X >= 0 && p.Y >= 0 && p.X < f.W && p.Y < f.H
}

// turn returns what turns from a place to a neighbor, by the definition.
func turn(f api.Field, p, q api.Place) int {
	e := edge(p, q)
	from, to := ends(e)
	sum := f.Dirs[to.Y*f.W+to.X] - f.Dirs[from.Y*f.W+from.X]
	if slices.Contains(f.Partings, e) {
		sum += 4
	}
	for sum > 4 {
		sum -= 8
	}
	for sum < -3 {
		sum += 8
	}
	if p == from {
		return sum
	}
	return -sum
}

func square(s api.Place) [5]api.Place {
	return [5]api.Place{s, {X: s.X + 1, Y: s.Y}, {X: s.X + 1, Y: s.Y + 1}, {X: s.X, Y: s.Y + 1}, s}
}

func indexOf(f api.Field, s api.Place) int {
	sum := 0
	c := square(s)
	for i := range 4 {
		sum += turn(f, c[i], c[i+1])
	}
	return sum / 4
}

func allSquares(f api.Field) []api.Place {
	var list []api.Place
	for y := range f.H - 1 {
		for x := range f.W - 1 {
			list = append(list, api.Place{X: x, Y: y})
		}
	}
	return list
}

// someField has any partings, and directions that are nowhere sharp.
func someField(r *rand.Rand) api.Field {
	f := plain(1+r.Intn(6), 1+r.Intn(6))
	if r.Intn(10) == 0 {
		f = plain(1+r.Intn(12), 1+r.Intn(12))
	}
	rare := 2 + r.Intn(6)
	for _, e := range allEdges(f) {
		if r.Intn(rare) == 0 && len(f.Partings) < 60 {
			f.Partings = append(f.Partings, e)
		}
	}
	calm := r.Intn(2) == 0
	for i := range f.Dirs {
		for sharp := true; sharp; {
			f.Dirs[i] = r.Intn(8)
			if calm {
				f.Dirs[i] = r.Intn(4)
			}
			p := api.Place{X: i % f.W, Y: i / f.W}
			sharp = p.X > 0 && turn(f, api.Place{X: p.X - 1, Y: p.Y}, p) == 4 || p.Y > 0 && turn(f, api.Place{X: p.X, Y: p.Y - 1}, p) == 4
		}
	}
	return f
}

func sixtyOne() []api.Edge {
	return allEdges(plain(12, 12))[:61]
}

// bad has fields with the errors of Validate.
func bad() []struct {
	f    api.Field
	want api.Errno
} {
	at := func(x, y, up int) api.Edge { return api.Edge{X: x, Y: y, Up: up} }
	return []struct {
		f    api.Field
		want api.Errno
	}{
		{api.Field{}, api.ErrArg},
		{api.Field{W: 0, H: 1}, api.ErrArg},
		{api.Field{W: 1, H: 0}, api.ErrArg},
		{api.Field{W: -1, H: -1, Dirs: []int{0}}, api.ErrArg},
		{plain(13, 1), api.ErrArg},
		{plain(1, 13), api.ErrArg},
		{api.Field{W: math.MinInt, H: 2}, api.ErrArg},
		{api.Field{W: 2, H: math.MaxInt}, api.ErrArg},
		{api.Field{W: 2, H: 2, Dirs: []int{0, 0, 0}}, api.ErrArg},
		{api.Field{W: 2, H: 2, Dirs: []int{0, 0, 0, 0, 0}}, api.ErrArg},
		{api.Field{W: 2, H: 1, Dirs: []int{0, -1}}, api.ErrArg},
		{api.Field{W: 2, H: 1, Dirs: []int{8, 0}}, api.ErrArg},
		{api.Field{W: 2, H: 1, Dirs: []int{0, 8}, Partings: sixtyOne()}, api.ErrArg},
		{api.Field{W: 13, H: 1, Dirs: make([]int, 13), Partings: sixtyOne()}, api.ErrArg},
		{api.Field{W: 12, H: 12, Dirs: make([]int, 144), Partings: sixtyOne()}, api.ErrLarge},
		{api.Field{W: 1, H: 1, Dirs: []int{0}, Partings: sixtyOne()}, api.ErrLarge},
		{field("000/000", at(2, 0, 0)), api.ErrArg},
		{field("000/000", at(0, 1, 1)), api.ErrArg},
		{field("000/000", at(-1, 0, 0)), api.ErrArg},
		{field("000/000", at(-1, 0, 1)), api.ErrArg},
		{field("000/000", at(0, -1, 0)), api.ErrArg},
		{field("000/000", at(0, -1, 1)), api.ErrArg},
		{field("000/000", at(0, 2, 0)), api.ErrArg},
		{field("000/000", at(3, 0, 1)), api.ErrArg},
		{field("000/000", at(0, 0, 2)), api.ErrArg},
		{field("000/000", at(0, 0, -1)), api.ErrArg},
		{field("000/000", at(math.MaxInt, math.MinInt, 0)), api.ErrArg},
		{field("000/000", at(0, 0, 0), at(0, 0, 0)), api.ErrArg},
		{field("000/000", at(0, 0, 1), at(0, 0, 0)), api.ErrArg},
		{field("000/000", at(0, 1, 0), at(0, 0, 1)), api.ErrArg},
		{field("000/000", at(1, 0, 0), at(0, 1, 0)), api.ErrArg},
		{field("040/000", at(1, 0, 1), at(0, 0, 0)), api.ErrArg},
		{field("04"), api.ErrSharp},
		{field("51"), api.ErrSharp},
		{field("0/4"), api.ErrSharp},
		{field("00/00", at(0, 0, 0)), api.ErrSharp},
		{field("04/00", at(0, 0, 0)), api.ErrSharp},
		{field("000/002/003", at(1, 1, 1)), api.ErrSharp},
		{field("3/3", at(0, 0, 1)), api.ErrSharp},
		{plain(12, 12), api.OK},
		{plain(1, 1), api.OK},
		{field("030/700"), api.OK},
		{field("04/02", at(0, 0, 0)), api.OK},
		{field("40/11/67", at(0, 0, 0)), api.OK},
		{field("400/111/222", at(0, 0, 0)), api.OK},
	}
}

func TestP3_1Validate(t *testing.T) {
	for i, x := range bad() {
		if e := flow.Validate(x.f); e != x.want {
			t.Errorf("%d: %v, want %v", i, e, x.want)
		}
	}
	r := rand.New(rand.NewSource(31))
	most := 0
	for range 400 {
		f := someField(r)
		most = max(most, len(f.Partings))
		if e := flow.Validate(f); e != api.OK {
			t.Fatal(f, e)
		}
		i := r.Intn(len(f.Dirs))
		f.Dirs[i] = r.Intn(8)
		want := api.OK
		for _, e := range allEdges(f) {
			if p, q := ends(e); turn(f, p, q) == 4 {
				want = api.ErrSharp
			}
		}
		if e := flow.Validate(f); e != want {
			t.Fatal(f, e, want)
		}
	}
	if most != 60 {
		t.Error("no field has 60 partings but", most)
	}
}

// TestP3_1Common checks that every function has the errors of Validate first,
// and only zero values with them.
func TestP3_1Common(t *testing.T) {
	for i, x := range bad() {
		if x.want == api.OK {
			continue
		}
		check := func(name string, e api.Errno, zero bool) {
			if e != x.want || !zero {
				t.Errorf("%d: %s: %v, want %v; zero values: %v", i, name, e, x.want, zero)
			}
		}
		far := api.Place{X: -1}
		n, e := flow.Turning(x.f, api.Edge{X: -1})
		check("Turning", e, n == 0)
		n, e = flow.Index(x.f, -1, 0)
		check("Index", e, n == 0)
		whorls, e := flow.Whorls(x.f)
		check("Whorls", e, len(whorls) == 0)
		n, e = flow.Walk(x.f, make([]api.Place, 1001))
		check("Walk", e, n == 0)
		n, e = flow.Inside(x.f, []api.Place{far})
		check("Inside", e, n == 0)
		n, e = flow.Rim(x.f, []api.Place{far})
		check("Rim", e, n == 0)
		g, e := flow.Set(x.f, -1, 0, 9)
		check("Set", e, isZero(g))
		g, e = flow.Part(x.f, api.Edge{X: -1})
		check("Part", e, isZero(g))
		g, e = flow.Spin(x.f, 1)
		check("Spin", e, isZero(g))
		g, e = flow.Mirror(x.f)
		check("Mirror", e, isZero(g))
		g, e = flow.Quarter(x.f)
		check("Quarter", e, isZero(g))
		path, circles, e := flow.Comb(x.f, -1, 0)
		check("Comb", e, len(path) == 0 && !circles)
		g, e = flow.Beside(x.f, plain(2, 11))
		check("Beside", e, isZero(g))
		g, e = flow.Beside(x.f, api.Field{})
		check("Beside two", e, isZero(g))
		g, e = flow.Beside(plain(12, 11), x.f)
		check("Beside second", e, isZero(g))
		g, e = flow.Crop(x.f, 0, 0, 0, 0)
		check("Crop", e, isZero(g))
		n, e = flow.Steep(x.f)
		check("Steep", e, n == 0)
		text, e := flow.Format(x.f)
		check("Format", e, text == "")
	}
}

func TestP3_2(t *testing.T) {
	out := field("57/31")
	if n, e := flow.Index(out, 0, 0); n != 2 || e != api.OK {
		t.Error(n, e)
	}
	if n, e := flow.Index(field("04/02", api.Edge{}), 0, 0); n != -1 || e != api.OK {
		t.Error(n, e)
	}
	r := rand.New(rand.NewSource(32))
	indices := map[int]int{}
	for range 400 {
		f := someField(r)
		for _, e := range allEdges(f) {
			p, q := ends(e)
			if n, err := flow.Turning(f, e); err != api.OK || n != turn(f, p, q) {
				t.Fatal(f, e, n, err)
			}
		}
		var whorls []api.Whorl
		for _, s := range allSquares(f) {
			want := indexOf(f, s)
			indices[want]++
			if n, err := flow.Index(f, s.X, s.Y); err != api.OK || n != want {
				t.Fatal(f, s, n, want, err)
			}
			if want != 0 {
				whorls = append(whorls, api.Whorl{X: s.X, Y: s.Y, Index: want})
			}
		}
		if got, err := flow.Whorls(f); err != api.OK || !slices.Equal(got, whorls) {
			t.Fatal(f, got, whorls, err)
		}
		for _, e := range []api.Edge{
			{X: f.W - 1, Y: 0, Up: 0}, {X: 0, Y: f.H - 1, Up: 1}, {X: -1, Y: 0, Up: 0}, {X: 0, Y: -1, Up: 1}, {X: 0, Y: f.H, Up: 0}, {X: f.W, Y: 0, Up: 1},
			{X: 0, Y: 0, Up: 2}, {X: 0, Y: 0, Up: -1}, {X: math.MaxInt, Y: math.MinInt, Up: 0}, {X: 0, Y: -1, Up: 0}, {X: -1, Y: 0, Up: 1},
		} {
			if n, err := flow.Turning(f, e); err != api.ErrNone || n != 0 {
				t.Fatal(f, e, n, err)
			}
			if g, err := flow.Part(f, e); err != api.ErrNone || !isZero(g) {
				t.Fatal(f, e, g, err)
			}
		}
		for _, s := range badSquares(f) {
			if n, err := flow.Index(f, s.X, s.Y); err != api.ErrNone || n != 0 {
				t.Fatal(f, s, n, err)
			}
		}
	}
	for n := -2; n <= 2; n++ {
		if indices[n] == 0 {
			t.Error("no square has the index", n)
		}
	}
}

func badSquares(f api.Field) []api.Place {
	return []api.Place{{X: -1, Y: 0}, {X: 0, Y: -1}, {X: f.W - 1, Y: 0}, {X: 0, Y: f.H - 1}, {X: math.MinInt, Y: math.MaxInt}, {X: math.MaxInt, Y: math.MinInt}}
}

func TestP3_3Walk(t *testing.T) {
	r := rand.New(rand.NewSource(33))
	steps := []api.Place{{X: 1}, {Y: 1}, {X: -1}, {Y: -1}}
	for range 400 {
		f := someField(r)
		at := api.Place{X: r.Intn(f.W), Y: r.Intn(f.H)}
		path := []api.Place{at}
		want := 0
		for range r.Intn(40) {
			s := steps[r.Intn(4)]
			next := api.Place{X: at.X + s.X, Y: at.Y + s.Y}
			if inField(f, next) {
				want += turn(f, at, next)
				at = next
				path = append(path, at)
			}
		}
		if n, e := flow.Walk(f, path); e != api.OK || n != want {
			t.Fatal(f, path, n, want, e)
		}
	}
	f := field("012/123/234")
	here := []api.Place{{X: 1, Y: 1}}
	long := slices.Repeat([]api.Place{{X: 0, Y: 0}, {X: 1, Y: 0}}, 500)
	for i, x := range []struct {
		path []api.Place
		want int
		e    api.Errno
	}{
		{nil, 0, api.OK}, {here, 0, api.OK}, {long, 1, api.OK},
		{append(long, api.Place{}), 0, api.ErrLarge}, {append(slices.Clone(long), api.Place{X: 9}), 0, api.ErrLarge},
		{[]api.Place{{X: 3}}, 0, api.ErrNone}, {[]api.Place{{X: -1}}, 0, api.ErrNone}, {[]api.Place{{Y: 3}}, 0, api.ErrNone}, {[]api.Place{{Y: -1}}, 0, api.ErrNone},
		{[]api.Place{{}, {X: 2}, {X: 3}}, 0, api.ErrNone}, {[]api.Place{{}, {X: 1}, {X: 2}, {X: 3}}, 0, api.ErrNone}, {[]api.Place{{X: math.MinInt, Y: math.MaxInt}}, 0, api.ErrNone},
		{[]api.Place{{}, {}}, 0, api.ErrArg}, {[]api.Place{{}, {X: 2}}, 0, api.ErrArg}, {[]api.Place{{}, {X: 1, Y: 1}}, 0, api.ErrArg}, {[]api.Place{{}, {Y: 2}}, 0, api.ErrArg},
		{[]api.Place{{X: 1}, {Y: 1}}, 0, api.ErrArg}, {[]api.Place{{X: 2}, {Y: 1}}, 0, api.ErrArg}, {[]api.Place{{}, {X: 1}, {X: 1}}, 0, api.ErrArg},
	} {
		if n, e := flow.Walk(f, x.path); n != x.want || e != x.e {
			t.Errorf("%d: %d, %v", i, n, e)
		}
	}
}

func TestP3_4(t *testing.T) {
	r := rand.New(rand.NewSource(34))
	for range 400 {
		f := someField(r)
		var some []api.Place
		sum := 0
		for _, s := range allSquares(f) {
			if r.Intn(3) > 0 {
				some = append(some, s)
				sum += indexOf(f, s)
			}
		}
		r.Shuffle(len(some), func(i, j int) { some[i], some[j] = some[j], some[i] })
		if n, e := flow.Inside(f, some); e != api.OK || n != sum {
			t.Fatal(f, some, n, sum, e)
		}
		// The rim by its definition: edges of exactly one of the squares.
		uses, way := map[api.Edge]int{}, map[api.Edge]int{}
		for _, s := range some {
			c := square(s)
			for i := range 4 {
				e := edge(c[i], c[i+1])
				uses[e]++
				way[e] = turn(f, c[i], c[i+1])
			}
		}
		rim := 0
		for e, n := range uses {
			if n == 1 {
				rim += way[e]
			}
		}
		if n, e := flow.Rim(f, some); e != api.OK || n != rim || n != 4*sum {
			t.Fatal(f, some, n, rim, e)
		}
		for _, s := range badSquares(f) {
			list := append(slices.Clone(some), some...)
			list = append(list, s)
			if n, e := flow.Inside(f, list); e != api.ErrNone || n != 0 {
				t.Fatal(f, list, n, e)
			}
			if n, e := flow.Rim(f, list); e != api.ErrNone || n != 0 {
				t.Fatal(f, list, n, e)
			}
		}
		if len(some) > 0 {
			list := append(slices.Clone(some), some[r.Intn(len(some))])
			if n, e := flow.Inside(f, list); e != api.ErrTwice || n != 0 {
				t.Fatal(f, list, n, e)
			}
			if n, e := flow.Rim(f, list); e != api.ErrTwice || n != 0 {
				t.Fatal(f, list, n, e)
			}
		}
	}
}

func TestP3_5SetPart(t *testing.T) {
	r := rand.New(rand.NewSource(35))
	for range 400 {
		f := someField(r)
		before := show(f)
		x, y, dir := r.Intn(f.W), r.Intn(f.H), r.Intn(8)
		want := clone(f)
		want.Dirs[y*f.W+x] = dir
		g, e := flow.Set(f, x, y, dir)
		if e != flow.Validate(want) || e == api.OK && show(g) != show(want) || e != api.OK && !isZero(g) || show(f) != before {
			t.Fatal(f, x, y, dir, g, e)
		}
		for _, d := range []int{-1, 8, math.MinInt, math.MaxInt} {
			if g, e := flow.Set(f, x, y, d); e != api.ErrArg || !isZero(g) {
				t.Fatal(f, x, y, d, g, e)
			}
		}
		for _, p := range []api.Place{{X: -1, Y: 0}, {X: 0, Y: -1}, {X: f.W, Y: 0}, {X: 0, Y: f.H}, {X: math.MaxInt, Y: math.MinInt}} {
			if g, e := flow.Set(f, p.X, p.Y, 9); e != api.ErrNone || !isZero(g) {
				t.Fatal(f, p, g, e)
			}
		}
		for _, at := range allEdges(f) {
			want := clone(f)
			if i := slices.Index(f.Partings, at); i >= 0 {
				want.Partings = slices.Delete(want.Partings, i, i+1)
			} else {
				i := 0
				for i < len(f.Partings) && (f.Partings[i].X < at.X || f.Partings[i].X == at.X && (f.Partings[i].Y < at.Y || f.Partings[i].Y == at.Y && f.Partings[i].Up < at.Up)) {
					i++
				}
				want.Partings = slices.Insert(want.Partings, i, at)
			}
			g, e := flow.Part(f, at)
			if e != flow.Validate(want) || e == api.OK && show(g) != show(want) || e != api.OK && !isZero(g) || show(f) != before {
				t.Fatal(f, at, g, e)
			}
		}
	}
}

// TestP3_5PartLarge has a field with 60 partings: one more is too many, even
// if it were sharp.
func TestP3_5PartLarge(t *testing.T) {
	f := plain(12, 12)
	f.Partings = sixtyOne()[:60]
	last := sixtyOne()[60]
	f.Dirs = directions(f)
	if g, e := flow.Part(f, last); e != api.ErrLarge || !isZero(g) {
		t.Error(g, e)
	}
}

// directions returns the first directions that are nowhere sharp.
func directions(f api.Field) []int {
	f = clone(f)
	for i := range f.Dirs {
		p := api.Place{X: i % f.W, Y: i / f.W}
		for p.X > 0 && turn(f, api.Place{X: p.X - 1, Y: p.Y}, p) == 4 || p.Y > 0 && turn(f, api.Place{X: p.X, Y: p.Y - 1}, p) == 4 {
			f.Dirs[i]++
		}
	}
	return f.Dirs
}

// moved checks a field against the places and directions of another one.
func moved(t *testing.T, f, g api.Field, w, h int, place func(api.Place) api.Place, dir func(int) int) {
	t.Helper()
	want := api.Field{W: w, H: h, Dirs: make([]int, w*h)}
	for i, d := range f.Dirs {
		p := place(api.Place{X: i % f.W, Y: i / f.W})
		want.Dirs[p.Y*w+p.X] = ((dir(d) % 8) + 8) % 8
	}
	for _, e := range allEdges(want) {
		for _, old := range f.Partings {
			p, q := ends(old)
			if edge(place(p), place(q)) == e {
				want.Partings = append(want.Partings, e)
			}
		}
	}
	if show(g) != show(want) {
		t.Fatal(f, g, want)
	}
}

func sumOfIndices(f api.Field) int {
	sum := 0
	for _, s := range allSquares(f) {
		sum += indexOf(f, s)
	}
	return sum
}

func TestP3_5Turned(t *testing.T) {
	r := rand.New(rand.NewSource(36))
	for range 400 {
		f := someField(r)
		before := show(f)
		for _, k := range []int{0, 1, 5, 8, -1, -8, -13, 1000, math.MaxInt, math.MinInt} {
			g, e := flow.Spin(f, k)
			if e != api.OK || sumOfIndices(g) != sumOfIndices(f) {
				t.Fatal(f, k, g, e)
			}
			moved(t, f, g, f.W, f.H, func(p api.Place) api.Place { return p }, func(d int) int { return d + k%8 })
		}
		g, e := flow.Mirror(f)
		if e != api.OK || sumOfIndices(g) != sumOfIndices(f) {
			t.Fatal(f, g, e)
		}
		moved(t, f, g, f.W, f.H, func(p api.Place) api.Place { return api.Place{X: f.W - 1 - p.X, Y: p.Y} }, func(d int) int { return 4 - d })
		g, e = flow.Quarter(f)
		if e != api.OK || sumOfIndices(g) != sumOfIndices(f) {
			t.Fatal(f, g, e)
		}
		moved(t, f, g, f.H, f.W, func(p api.Place) api.Place { return api.Place{X: f.H - 1 - p.Y, Y: p.X} }, func(d int) int { return d + 2 })
		if show(f) != before {
			t.Fatal("the argument was changed")
		}
	}
}

func TestP3_6Comb(t *testing.T) {
	steps := []api.Place{{X: 1}, {X: 1, Y: 1}, {Y: 1}, {X: -1, Y: 1}, {X: -1}, {X: -1, Y: -1}, {Y: -1}, {X: 1, Y: -1}}
	r := rand.New(rand.NewSource(37))
	rounds := 0
	for range 400 {
		f := someField(r)
		for y := range f.H {
			for x := range f.W {
				at := api.Place{X: x, Y: y}
				var want []api.Place
				for inField(f, at) && !slices.Contains(want, at) {
					want = append(want, at)
					s := steps[f.Dirs[at.Y*f.W+at.X]]
					at = api.Place{X: at.X + s.X, Y: at.Y + s.Y}
				}
				path, circles, e := flow.Comb(f, x, y)
				if e != api.OK || !slices.Equal(path, want) || circles != inField(f, at) {
					t.Fatal(f, x, y, path, circles, e)
				}
				if circles {
					rounds++
				}
			}
		}
		for _, p := range []api.Place{{X: -1, Y: 0}, {X: 0, Y: -1}, {X: f.W, Y: 0}, {X: 0, Y: f.H}, {X: math.MaxInt, Y: math.MinInt}} {
			if path, circles, e := flow.Comb(f, p.X, p.Y); e != api.ErrNone || len(path) != 0 || circles {
				t.Fatal(f, p, path, circles, e)
			}
		}
	}
	if rounds < 100 {
		t.Error("few paths circle:", rounds)
	}
	if path, circles, e := flow.Comb(field("000/000/000"), 1, 1); show(path) != "[{1 1} {2 1}]" || circles || e != api.OK {
		t.Error(path, circles, e)
	}
	if path, circles, e := flow.Comb(field("02/64"), 0, 0); show(path) != "[{0 0} {1 0} {1 1} {0 1}]" || !circles || e != api.OK {
		t.Error(path, circles, e)
	}
	// A parting does not stop it.
	if path, _, e := flow.Comb(field("03", api.Edge{}), 0, 0); show(path) != "[{0 0} {1 0}]" || e != api.OK {
		t.Error(path, e)
	}
}

func TestP3_7Beside(t *testing.T) {
	r := rand.New(rand.NewSource(38))
	joined := 0
	for range 3000 {
		a, b := someField(r), someField(r)
		before := show(a) + show(b)
		g, e := flow.Beside(a, b)
		switch {
		case a.H != b.H:
			if e != api.ErrFit || !isZero(g) {
				t.Fatal(a, b, g, e)
			}
			continue
		case a.W+b.W > 12:
			if e != api.ErrLarge || !isZero(g) {
				t.Fatal(a, b, g, e)
			}
			continue
		}
		want := api.Field{W: a.W + b.W, H: a.H, Partings: slices.Clone(a.Partings)}
		for y := range a.H {
			want.Dirs = append(want.Dirs, a.Dirs[y*a.W:(y+1)*a.W]...)
			want.Dirs = append(want.Dirs, b.Dirs[y*b.W:(y+1)*b.W]...)
		}
		for _, p := range b.Partings {
			want.Partings = append(want.Partings, api.Edge{X: p.X + a.W, Y: p.Y, Up: p.Up})
		}
		if e != flow.Validate(want) || e == api.OK && show(g) != show(want) || e != api.OK && !isZero(g) || show(a)+show(b) != before {
			t.Fatal(a, b, g, e)
		}
		if e == api.OK {
			joined++
		}
	}
	if joined < 100 {
		t.Error("few fields were joined:", joined)
	}
	for i, x := range []struct {
		a, b api.Field
		want api.Errno
	}{
		{plain(6, 12), plain(6, 12), api.OK}, {plain(6, 2), plain(7, 2), api.ErrLarge}, {plain(12, 2), plain(12, 3), api.ErrFit}, {plain(1, 2), plain(11, 2), api.OK},
		{field("0/0"), field("0/4"), api.ErrSharp}, {field("0/0"), field("0/3"), api.OK}, {field("1/1"), field("5/5"), api.ErrSharp},
	} {
		if g, e := flow.Beside(x.a, x.b); e != x.want || e != api.OK && !isZero(g) {
			t.Errorf("%d: %v, %v", i, g, e)
		}
	}
	many := plain(6, 12)
	for _, e := range allEdges(many)[:31] {
		many.Partings = append(many.Partings, e)
	}
	many.Dirs = directions(many)
	if g, e := flow.Beside(many, many); e != api.ErrLarge || !isZero(g) {
		t.Error(g, e)
	}
}

func TestP3_7CropSteep(t *testing.T) {
	r := rand.New(rand.NewSource(39))
	for range 400 {
		f := someField(r)
		before := show(f)
		x, y := r.Intn(f.W), r.Intn(f.H)
		w, h := 1+r.Intn(f.W-x), 1+r.Intn(f.H-y)
		want := api.Field{W: w, H: h}
		for row := range h {
			for column := range w {
				want.Dirs = append(want.Dirs, f.Dirs[(y+row)*f.W+x+column])
			}
		}
		for _, e := range f.Partings {
			p, q := ends(e)
			if p.X >= x && p.Y >= y && q.X < x+w && q.Y < y+h {
				want.Partings = append(want.Partings, api.Edge{X: e.X - x, Y: e.Y - y, Up: e.Up})
			}
		}
		if g, e := flow.Crop(f, x, y, w, h); e != api.OK || show(g) != show(want) || show(f) != before {
			t.Fatal(f, x, y, w, h, g, e)
		}
		for _, c := range [][4]int{
			{-1, y, 1, 1}, {x, -1, 1, 1}, {x, y, 0, 1}, {x, y, 1, 0}, {x, y, f.W - x + 1, 1}, {x, y, 1, f.H - y + 1}, {f.W, y, 1, 1}, {x, f.H, 1, 1}, {f.W, y, 0, 1},
			{x, y, math.MaxInt, 1}, {x, y, 1, math.MaxInt}, {math.MinInt, y, math.MaxInt, 1}, {math.MaxInt, y, math.MaxInt, 1}, {x, y, -1, 1}, {x, y, 1, math.MinInt}, {-1, y, 2, 1},
		} {
			if g, e := flow.Crop(f, c[0], c[1], c[2], c[3]); e != api.ErrArg || !isZero(g) {
				t.Fatal(f, c, g, e)
			}
		}
		steep := 0
		for _, e := range allEdges(f) {
			p, q := ends(e)
			steep = max(steep, turn(f, p, q), turn(f, q, p))
		}
		if n, e := flow.Steep(f); e != api.OK || n != steep {
			t.Fatal(f, n, steep, e)
		}
	}
	for rows, want := range map[string]int{"5": 0, "11": 0, "03": 3, "30": 3, "0/6": 2, "2/2/3": 1} {
		if n, e := flow.Steep(field(rows)); n != want || e != api.OK {
			t.Error(rows, n, e)
		}
	}
}

func TestP3_8(t *testing.T) {
	for i, x := range []struct {
		f    api.Field
		want string
	}{
		{field("57/31"), "flow 2 2 57/31"},
		{field("0"), "flow 1 1 0"},
		{field("04/02", api.Edge{}), "flow 2 2 04/02 0,0,0"},
		{field("400/111/222", api.Edge{}, api.Edge{X: 0, Y: 0, Up: 1}, api.Edge{X: 1, Y: 1, Up: 1}), "flow 3 3 400/111/222 0,0,0 0,0,1 1,1,1"},
		{plain(12, 1), "flow 12 1 000000000000"},
	} {
		if text, e := flow.Format(x.f); e != api.OK || text != x.want {
			t.Errorf("%d: %q, %v", i, text, e)
		}
	}
	r := rand.New(rand.NewSource(310))
	for range 500 {
		f := someField(r)
		text, e := flow.Format(f)
		if e != api.OK {
			t.Fatal(f, e)
		}
		if g, e := flow.Parse(text); e != api.OK || show(g) != show(f) {
			t.Fatal(f, g, e)
		}
	}
	for _, text := range []string{
		"", " ", "flow", "flow 1 1", "flow 1 1 ", "flow 1 1 8", "flow 1 1 x", "flow 1 1 00", "flow 1 1 0/", "flow 1 1 /0", "flow 01 1 0", "flow 1 +1 0", "flow 1 1 0 ", " flow 1 1 0",
		"flow  1 1 0", "flow 1 1 0\n", "Flow 1 1 0", "flow 2 1 0/0", "flow 1 2 00", "flow 2 2 000/0", "flow 2 2 0000", "flow 2 1 04", "flow 13 1 0000000000000", "flow 0 0 ",
		"flow 2 2 00/02 0,0", "flow 2 2 04/02 0,0,0,0", "flow 2 2 04/02 0,0,00", "flow 2 2 04/02 0,0,-0", "flow 2 2 04/02 0,0,0 0,0,0", "flow 2 2 04/02 x", "flow 2 2 04/02 0;0;0",
		"flow 2 2 04/02 1,0,0", "flow 2 2 00/00 0,0,0", "flow 2 2 04/02 0, 0,0", "flow 2 2 04/02  0,0,0", "flow 3 3 400/111/222 1,1,1 0,0,0", "flow 99999999999999999999 1 0", "flow -1 -1 0", "whorl 1 1 0",
		strings.Repeat(" ", 4000), "flow 1 1 " + strings.Repeat("0", 3991),
	} {
		if f, e := flow.Parse(text); e != api.ErrSyntax || !isZero(f) {
			t.Errorf("%q: %v, %v", text, f, e)
		}
	}
	if f, e := flow.Parse(strings.Repeat(" ", 4001)); e != api.ErrLarge || !isZero(f) {
		t.Error(f, e)
	}
}

// TestMemory checks R5: changes of a result change no argument.
func TestMemory(t *testing.T) {
	f := field("400/111/222", api.Edge{}, api.Edge{X: 0, Y: 0, Up: 1}, api.Edge{X: 1, Y: 1, Up: 1})
	f.Partings = append(make([]api.Edge, 0, 9), f.Partings...)
	f.Dirs = append(make([]int, 0, 99), f.Dirs...)
	before := show(f)
	set, _ := flow.Set(f, 0, 0, 5)
	parted, _ := flow.Part(f, api.Edge{X: 2, Y: 0, Up: 1})
	joined, _ := flow.Part(f, api.Edge{X: 0, Y: 0, Up: 1})
	spun, _ := flow.Spin(f, 0)
	beside, _ := flow.Beside(f, field("0/1/2"))
	crop, _ := flow.Crop(f, 0, 0, 3, 3)
	for i, g := range []api.Field{set, parted, joined, spun, beside, crop} {
		if isZero(g) || len(g.Partings) == 0 {
			t.Fatal(i, g)
		}
		g.Dirs[0], g.Partings[0] = 9, api.Edge{X: 9}
		if show(f) != before || f.Dirs[:10][9] != 0 || f.Partings[:4][3] != (api.Edge{}) {
			t.Fatal("memory is shared", i)
		}
	}
}
