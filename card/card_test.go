package card_test

import (
	"fmt"
	"math"
	"math/rand"
	"slices"
	"strings"
	"testing"

	"wigmaker/api"
	"wigmaker/card"
)

func show(x any) string {
	return fmt.Sprintf("%v", x)
}

func entry(place, seq, s0, s1, s2 int, text string) api.Entry {
	return api.Entry{Place: place, Seq: seq, Seen: [3]int{s0, s1, s2}, Text: text}
}

func less(x, y api.Entry) int {
	if x.Place != y.Place {
		return x.Place - y.Place
	}
	return x.Seq - y.Seq
}

func counts(c []api.Entry) [3]int {
	var n [3]int
	for _, e := range c {
		n[e.Place]++
	}
	return n
}

func saw(e, f api.Entry) bool {
	return e.Seen[f.Place] >= f.Seq
}

// add and union make cards without the package.
func add(c []api.Entry, place int, text string) []api.Entry {
	n := counts(c)
	d := append(slices.Clone(c), api.Entry{Place: place, Seq: n[place] + 1, Seen: n, Text: text})
	slices.SortFunc(d, less)
	return d
}

func union(a, b []api.Entry) []api.Entry {
	d := slices.Clone(a)
	for _, e := range b {
		if !slices.Contains(a, e) {
			d = append(d, e)
		}
	}
	slices.SortFunc(d, less)
	return d
}

var texts = []string{"wash", "bleach", "cut 3", "dye red", "comb", "shed 12", "x", "a  b"}

// someCopies returns three copies of one card after some work: each place adds
// to its own.
func someCopies(r *rand.Rand, steps int) [3][]api.Entry {
	var c [3][]api.Entry
	for range r.Intn(steps + 1) {
		p, q := r.Intn(3), r.Intn(3)
		if r.Intn(3) > 0 {
			c[p] = add(c[p], p, texts[r.Intn(len(texts))])
		} else {
			c[p] = union(c[p], c[q])
		}
	}
	return c
}

func someCard(r *rand.Rand) []api.Entry {
	c := someCopies(r, 20)
	return union(c[0], union(c[1], c[2]))
}

func isRight(text string) bool {
	if len(text) == 0 || len(text) > 60 || strings.Trim(text, " ") != text {
		return false
	}
	return !strings.ContainsFunc(text, func(r rune) bool { return r < 32 || r > 126 })
}

// errorOf follows the words of P8.1.
func errorOf(c []api.Entry) api.Errno {
	if len(c) > 60 {
		return api.ErrLarge
	}
	for _, e := range c {
		if e.Place < 0 || e.Place > 2 || !isRight(e.Text) {
			return api.ErrArg
		}
	}
	var n [3]int
	for i, e := range c {
		n[e.Place]++
		if e.Seq != n[e.Place] || i > 0 && c[i-1].Place > e.Place {
			return api.ErrArg
		}
	}
	for _, e := range c {
		for p := range 3 {
			if p == e.Place && e.Seen[p] != e.Seq-1 || p != e.Place && (e.Seen[p] < 0 || e.Seen[p] > n[p]) {
				return api.ErrSeen
			}
		}
		for _, f := range c {
			if saw(e, f) && (e.Seen[0] < f.Seen[0] || e.Seen[1] < f.Seen[1] || e.Seen[2] < f.Seen[2]) {
				return api.ErrSeen
			}
		}
	}
	return api.OK
}

type badCard struct {
	c    []api.Entry
	want api.Errno
}

func badCards() []badCard {
	good := entry(0, 1, 0, 0, 0, "wash")
	list := []badCard{
		{make([]api.Entry, 61), api.ErrLarge},
		{[]api.Entry{entry(-1, 1, 0, 0, 0, "x")}, api.ErrArg}, {[]api.Entry{good, entry(3, 1, 0, 0, 0, "x")}, api.ErrArg}, {[]api.Entry{entry(math.MinInt, 1, 0, 0, 0, "x")}, api.ErrArg}, {[]api.Entry{entry(math.MaxInt, 1, 0, 0, 0, "x")}, api.ErrArg},
		{[]api.Entry{entry(0, 0, 0, 0, 0, "x")}, api.ErrArg}, {[]api.Entry{entry(0, 2, 1, 0, 0, "x")}, api.ErrArg}, {[]api.Entry{good, entry(0, 1, 0, 0, 0, "x")}, api.ErrArg}, {[]api.Entry{good, entry(0, 3, 2, 0, 0, "x")}, api.ErrArg},
		{[]api.Entry{entry(0, 2, 1, 0, 0, "x"), good}, api.ErrArg}, {[]api.Entry{entry(1, 1, 0, 0, 0, "x"), good}, api.ErrArg}, {[]api.Entry{entry(2, 1, 0, 0, 0, "x"), entry(1, 1, 0, 0, 0, "x")}, api.ErrArg},
		{[]api.Entry{good, entry(1, 1, 5, 5, 5, "x"), entry(0, 2, 1, 0, 0, "x")}, api.ErrArg}, {[]api.Entry{entry(0, 1, 9, 9, 9, "x"), entry(0, 9, 0, 0, 0, "x")}, api.ErrArg}, {[]api.Entry{entry(0, 1, 9, 9, 9, "x"), entry(2, 1, 0, 0, 0, "")}, api.ErrArg},
		{[]api.Entry{entry(0, 1, 1, 0, 0, "x")}, api.ErrSeen}, {[]api.Entry{entry(0, 1, -1, 0, 0, "x")}, api.ErrSeen}, {[]api.Entry{entry(0, 1, 0, 1, 0, "x")}, api.ErrSeen}, {[]api.Entry{entry(0, 1, 0, -1, 0, "x")}, api.ErrSeen},
		{[]api.Entry{entry(0, 1, 0, 0, math.MinInt, "x")}, api.ErrSeen}, {[]api.Entry{entry(0, 1, math.MaxInt, 0, 0, "x")}, api.ErrSeen}, {[]api.Entry{good, entry(0, 2, 0, 0, 0, "x")}, api.ErrSeen}, {[]api.Entry{good, entry(1, 1, 2, 0, 0, "x")}, api.ErrSeen},
		// Each has seen the other one.
		{[]api.Entry{entry(0, 1, 0, 1, 0, "x"), entry(1, 1, 1, 0, 0, "x")}, api.ErrSeen},
		// The third has seen the second, but not what that has seen.
		{[]api.Entry{good, entry(1, 1, 1, 0, 0, "x"), entry(2, 1, 0, 1, 0, "x")}, api.ErrSeen},
		// A later entry has seen less than an earlier one of its place.
		{[]api.Entry{good, entry(1, 1, 1, 0, 0, "x"), entry(1, 2, 0, 1, 0, "x")}, api.ErrSeen},
	}
	for _, text := range []string{"", " ", " x", "x ", "x\n", "\tx", "x\x1fy", "x\x7fy", "xäy", "\x00", "\xff", strings.Repeat("x", 61)} {
		list = append(list, badCard{[]api.Entry{good, entry(0, 2, 1, 0, 0, text)}, api.ErrArg})
	}
	return list
}

func TestP8_1Validate(t *testing.T) {
	for i, x := range badCards() {
		if e := card.Validate(x.c); e != x.want {
			t.Errorf("%d: %v, want %v", i, e, x.want)
		}
	}
	full := []api.Entry{}
	for i := range 60 {
		full = append(full, entry(1, i+1, 0, i, 0, strings.Repeat("~", 60)))
	}
	for i, c := range [][]api.Entry{
		nil, full, {entry(2, 1, 0, 0, 0, "!")}, {entry(0, 1, 0, 0, 0, "a   b"), entry(1, 1, 1, 0, 0, "x"), entry(2, 1, 1, 1, 0, "x")}, {entry(0, 1, 0, 0, 0, "x"), entry(0, 2, 1, 1, 0, "x"), entry(1, 1, 0, 0, 0, "x")},
	} {
		if e := card.Validate(c); e != api.OK {
			t.Errorf("%d: %v", i, e)
		}
	}
	r := rand.New(rand.NewSource(81))
	seen := map[api.Errno]int{}
	for range 8000 {
		c := someCard(r)
		if len(c) == 0 {
			continue
		}
		e := &c[r.Intn(len(c))]
		switch r.Intn(6) {
		case 0:
			e.Place += r.Intn(3) - 1
		case 1:
			e.Seq += r.Intn(3) - 1
		case 2, 3:
			e.Seen[r.Intn(3)] += r.Intn(3) - 1
		case 4:
			i := r.Intn(len(c))
			c = slices.Delete(c, i, i+1)
		}
		want := errorOf(c)
		seen[want]++
		if e := card.Validate(c); e != want {
			t.Fatal(c, e, want)
		}
	}
	if seen[api.OK] < 500 || seen[api.ErrArg] < 500 || seen[api.ErrSeen] < 500 {
		t.Error(seen)
	}
}

// TestP8_1Common checks that every function has the errors of Validate first,
// and only zero values with them.
func TestP8_1Common(t *testing.T) {
	for i, x := range badCards() {
		check := func(name string, e api.Errno, zero bool) {
			if e != x.want || !zero {
				t.Errorf("%d: %s: %v, want %v; zero values: %v", i, name, e, x.want, zero)
			}
		}
		n3, e := card.Clock(x.c)
		check("Clock", e, n3 == [3]int{})
		c, e := card.Add(x.c, -1, "")
		check("Add", e, len(c) == 0)
		ok, e := card.HasSeen(x.c, -1, 0)
		check("HasSeen", e, !ok)
		n, e := card.Independent(x.c)
		check("Independent", e, n == 0)
		order, e := card.Order(x.c)
		check("Order", e, len(order) == 0)
		c, e = card.Missing(x.c, [3]int{})
		check("Missing", e, len(c) == 0)
		c, e = card.At(x.c, [3]int{-1})
		check("At", e, len(c) == 0)
		c, e = card.Known(x.c, -1)
		check("Known", e, len(c) == 0)
		text, e := card.Write(x.c)
		check("Write", e, text == "")
		h, e := card.Fold(x.c)
		check("Fold", e, h == card.History{})
		other := []api.Entry{entry(0, 1, 0, 0, 0, "other")}
		for _, pair := range [][2][]api.Entry{{x.c, other}, {other, x.c}, {x.c, nil}, {nil, x.c}, {x.c, x.c}} {
			n, e = card.Relation(pair[0], pair[1])
			check("Relation", e, n == 0)
			c, e = card.Merge(pair[0], pair[1])
			check("Merge", e, len(c) == 0)
			c, e = card.Meet(pair[0], pair[1])
			check("Meet", e, len(c) == 0)
		}
		if _, e := card.Merge(make([]api.Entry, 61), x.c); e != api.ErrLarge {
			t.Error(i, e)
		}
		if _, e := card.Merge(x.c, make([]api.Entry, 61)); e != x.want {
			t.Error(i, e)
		}
	}
}

func TestP8_2Add(t *testing.T) {
	r := rand.New(rand.NewSource(82))
	for range 1000 {
		c := someCard(r)
		before := show(c)
		if n, e := card.Clock(c); n != counts(c) || e != api.OK {
			t.Fatal(c, n, e)
		}
		for place := range 3 {
			got, e := card.Add(c, place, "new")
			if e != api.OK || show(got) != show(add(c, place, "new")) || show(c) != before {
				t.Fatal(c, place, got, e)
			}
			got[0].Text = "changed"
			if show(c) != before {
				t.Fatal("memory is shared")
			}
		}
	}
	one, _ := card.Add(nil, 0, "wash")
	two, e := card.Add(one, 1, "cut 3")
	if show(two) != show([]api.Entry{entry(0, 1, 0, 0, 0, "wash"), entry(1, 1, 1, 0, 0, "cut 3")}) || e != api.OK {
		t.Error(two, e)
	}
	var full []api.Entry
	for i := range 60 {
		full, e = card.Add(full, i%3, strings.Repeat("x", 60))
		if e != api.OK || len(full) != i+1 {
			t.Fatal(i, e)
		}
	}
	for i, x := range []struct {
		c     []api.Entry
		place int
		text  string
		want  api.Errno
	}{
		{full, 0, "x", api.ErrLarge}, {full, 3, "x", api.ErrArg}, {full, 0, "", api.ErrArg}, {one, -1, "x", api.ErrArg}, {one, 3, "x", api.ErrArg}, {one, math.MinInt, "x", api.ErrArg}, {one, 0, "x ", api.ErrArg}, {one, 0, " x", api.ErrArg},
		{one, 0, "x\n", api.ErrArg}, {one, 0, "\x7f", api.ErrArg}, {one, 0, "ä", api.ErrArg}, {one, 0, strings.Repeat("x", 61), api.ErrArg}, {one, 0, "x\x1f", api.ErrArg},
	} {
		if c, e := card.Add(x.c, x.place, x.text); len(c) != 0 || e != x.want {
			t.Errorf("%d: %v, %v", i, c, e)
		}
	}
}

func TestP8_2Seen(t *testing.T) {
	r := rand.New(rand.NewSource(83))
	pairs := 0
	for range 500 {
		c := someCard(r)
		n := 0
		for i := range c {
			for j := range c {
				want := c[i].Seen[c[j].Place] >= c[j].Seq
				if ok, e := card.HasSeen(c, i, j); ok != want || e != api.OK {
					t.Fatal(c, i, j, ok, e)
				}
				if i < j && !saw(c[i], c[j]) && !saw(c[j], c[i]) {
					n++
				}
			}
		}
		if got, e := card.Independent(c); got != n || e != api.OK {
			t.Fatal(c, got, n, e)
		}
		pairs += n
		for _, x := range [][2]int{{-1, 0}, {0, -1}, {len(c), 0}, {0, len(c)}, {math.MinInt, math.MaxInt}} {
			if ok, e := card.HasSeen(c, x[0], x[1]); ok || e != api.ErrNone {
				t.Fatal(c, x, ok, e)
			}
		}
	}
	if pairs < 500 {
		t.Error("few are independent:", pairs)
	}
}

// order puts the numbers of the entries in order, one after another.
func order(c []api.Entry) []int {
	var list []int
	for len(list) < len(c) {
		best := -1
		for i, e := range c {
			if slices.Contains(list, i) {
				continue
			}
			if best < 0 {
				best = i
			}
			x, y := e.Seen[0]+e.Seen[1]+e.Seen[2], c[best].Seen[0]+c[best].Seen[1]+c[best].Seen[2]
			if x < y || x == y && e.Place < c[best].Place {
				best = i
			}
		}
		list = append(list, best)
	}
	return list
}

func TestP8_3Order(t *testing.T) {
	r := rand.New(rand.NewSource(84))
	for range 1000 {
		c := someCard(r)
		got, e := card.Order(c)
		if e != api.OK || !slices.Equal(got, order(c)) {
			t.Fatal(c, got, e)
		}
		for i := range got {
			for j := range got[:i] {
				if saw(c[got[j]], c[got[i]]) {
					t.Fatal(c, got)
				}
			}
		}
	}
	c := []api.Entry{entry(0, 1, 0, 0, 0, "x"), entry(0, 2, 1, 0, 0, "x"), entry(1, 1, 1, 0, 0, "x")}
	if got, e := card.Order(c); show(got) != "[0 1 2]" || e != api.OK {
		t.Error(got, e)
	}
	c = []api.Entry{entry(0, 1, 0, 1, 1, "x"), entry(1, 1, 0, 0, 0, "x"), entry(2, 1, 0, 0, 0, "x")}
	if got, e := card.Order(c); show(got) != "[1 2 0]" || e != api.OK {
		t.Error(got, e)
	}
}

func parted(a, b []api.Entry) bool {
	return slices.ContainsFunc(a, func(x api.Entry) bool {
		return slices.ContainsFunc(b, func(y api.Entry) bool { return x.Place == y.Place && x.Seq == y.Seq && x != y })
	})
}

func TestP8_4(t *testing.T) {
	r := rand.New(rand.NewSource(85))
	relations := map[int]int{}
	refused := 0
	for range 3000 {
		copies := someCopies(r, 20)
		a, b := copies[r.Intn(3)], copies[r.Intn(3)]
		if r.Intn(4) == 0 {
			// Two that write at the same place in different copies.
			b = add(b, r.Intn(3), "mine")
			a = add(a, r.Intn(3), "yours")
		}
		before := show(a) + show(b)
		merged, e1 := card.Merge(a, b)
		both, e2 := card.Meet(a, b)
		relation, e3 := card.Relation(a, b)
		if show(a)+show(b) != before {
			t.Fatal("an argument was changed")
		}
		if parted(a, b) {
			refused++
			if e1 != api.ErrParted || e2 != api.ErrParted || e3 != api.ErrParted || len(merged)+len(both)+relation != 0 {
				t.Fatal(a, b, e1, e2, e3)
			}
			continue
		}
		all := union(a, b)
		var common []api.Entry
		for _, x := range a {
			if slices.Contains(b, x) {
				common = append(common, x)
			}
		}
		want := api.Neither
		switch {
		case len(a) == len(b) && len(all) == len(a):
			want = api.Alike
		case len(all) == len(a):
			want = api.First
		case len(all) == len(b):
			want = api.Second
		}
		relations[want]++
		if e1 != api.OK || e2 != api.OK || e3 != api.OK || !slices.Equal(merged, all) || !slices.Equal(both, common) || relation != want {
			t.Fatal(a, b, merged, both, relation, e1, e2, e3)
		}
		if len(merged) > 0 {
			merged[0].Text = "changed"
		}
		if len(both) > 0 {
			both[0].Text = "changed"
		}
		if show(a)+show(b) != before {
			t.Fatal("memory is shared")
		}
	}
	for want := range 4 {
		if relations[want] < 50 {
			t.Error("relation", want, relations[want])
		}
	}
	if refused < 50 {
		t.Error("few contradict:", refused)
	}
}

func TestP8_4Large(t *testing.T) {
	var a, b []api.Entry
	for i := range 30 {
		a = add(a, 0, "x")
		b = add(b, 2, "x")
		merged, e := card.Merge(a, b)
		if e != api.OK || len(merged) != 2*i+2 {
			t.Fatal(i, len(merged), e)
		}
	}
	b = add(b, 2, "x")
	if c, e := card.Merge(a, b); len(c) != 0 || e != api.ErrLarge {
		t.Error(len(c), e)
	}
	if c, e := card.Meet(a, b); len(c) != 0 || e != api.OK {
		t.Error(len(c), e)
	}
	if n, e := card.Relation(a, b); n != api.Neither || e != api.OK {
		t.Error(n, e)
	}
	a, b = add(a, 2, "y"), add(b, 2, "x")
	if c, e := card.Merge(a, b); len(c) != 0 || e != api.ErrParted {
		t.Error(len(c), e)
	}
	one, two := []api.Entry{entry(1, 1, 0, 0, 0, "wash")}, []api.Entry{entry(1, 1, 0, 0, 0, "dye red")}
	if c, e := card.Merge(one, two); len(c) != 0 || e != api.ErrParted {
		t.Error(c, e)
	}
	// The same text, but another Seen.
	three := []api.Entry{entry(0, 1, 0, 0, 0, "x"), entry(1, 1, 1, 0, 0, "wash")}
	if c, e := card.Meet(one, three); len(c) != 0 || e != api.ErrParted {
		t.Error(c, e)
	}
}

func TestP8_5(t *testing.T) {
	r := rand.New(rand.NewSource(86))
	seen := map[api.Errno]int{}
	for range 3000 {
		c := someCard(r)
		before := show(c)
		n := counts(c)
		clock := [3]int{r.Intn(n[0] + 1), r.Intn(n[1] + 1), r.Intn(n[2] + 1)}
		if r.Intn(5) == 0 {
			clock[r.Intn(3)] = r.Intn(14) - 3
		}
		var above, below []api.Entry
		e := api.OK
		for _, x := range c {
			if x.Seq > clock[x.Place] {
				above = append(above, x)
			} else {
				below = append(below, x)
			}
		}
		for _, x := range below {
			for _, y := range above {
				if saw(x, y) {
					e = api.ErrSeen
				}
			}
		}
		for p := range 3 {
			if clock[p] < 0 || clock[p] > n[p] {
				e = api.ErrArg
			}
		}
		if e != api.OK {
			below = nil
		}
		seen[e]++
		if got, e := card.Missing(c, clock); !slices.Equal(got, above) || e != api.OK {
			t.Fatal(c, clock, got, e)
		}
		if got, err := card.At(c, clock); !slices.Equal(got, below) || err != e {
			t.Fatal(c, clock, got, err, e)
		}
		for i, x := range c {
			var want []api.Entry
			for j, y := range c {
				if i == j || saw(x, y) {
					want = append(want, y)
				}
			}
			got, e := card.Known(c, i)
			if e != api.OK || !slices.Equal(got, want) || errorOf(got) != api.OK {
				t.Fatal(c, i, got, e)
			}
			got[0].Text = "changed"
			if show(c) != before {
				t.Fatal("memory is shared")
			}
		}
		for _, i := range []int{-1, len(c), math.MinInt, math.MaxInt} {
			if got, e := card.Known(c, i); len(got) != 0 || e != api.ErrNone {
				t.Fatal(c, i, got, e)
			}
		}
		if got, e := card.At(c, n); !slices.Equal(got, c) || e != api.OK {
			t.Fatal(c, got, e)
		}
	}
	for _, e := range []api.Errno{api.OK, api.ErrArg, api.ErrSeen} {
		if seen[e] < 100 {
			t.Error(e, seen[e])
		}
	}
	c := []api.Entry{entry(0, 1, 0, 0, 0, "x"), entry(1, 1, 1, 0, 0, "y")}
	if got, e := card.Missing(c, [3]int{math.MinInt, math.MaxInt, 5}); show(got) != show(c[:1]) || e != api.OK {
		t.Error(got, e)
	}
	for _, clock := range [][3]int{{-1, 0, 0}, {0, 2, 0}, {0, 1, 1}, {math.MaxInt, 0, 0}, {0, 0, math.MinInt}} {
		if got, e := card.At(c, clock); len(got) != 0 || e != api.ErrArg {
			t.Error(clock, got, e)
		}
	}
	if got, e := card.At(c, [3]int{0, 1, 0}); len(got) != 0 || e != api.ErrSeen {
		t.Error(got, e)
	}
}

func write(c []api.Entry) string {
	var b strings.Builder
	for _, i := range order(c) {
		e := c[i]
		fmt.Fprintf(&b, "%d %d %d %d %d %s\n", e.Place, e.Seq, e.Seen[0], e.Seen[1], e.Seen[2], e.Text)
	}
	return b.String()
}

func TestP8_6Write(t *testing.T) {
	r := rand.New(rand.NewSource(87))
	for range 200 {
		c := someCard(r)
		text, e := card.Write(c)
		if e != api.OK || text != write(c) {
			t.Fatal(c, text, e)
		}
		if got, rest := card.Read(text); !slices.Equal(got, c) || rest != "" {
			t.Fatal(c, got, rest)
		}
		// A torn card: each beginning stands for the lines that are whole.
		for cut := range len(text) {
			torn := text[:cut]
			whole := strings.LastIndexByte(torn, '\n') + 1
			var want []api.Entry
			for _, i := range order(c)[:strings.Count(torn, "\n")] {
				want = append(want, c[i])
			}
			slices.SortFunc(want, less)
			got, rest := card.Read(torn)
			if !slices.Equal(got, want) || rest != torn[whole:] {
				t.Fatalf("%q: %v, %q", torn, got, rest)
			}
			if merged, e := card.Merge(c, got); e != api.OK || !slices.Equal(merged, c) {
				t.Fatal(c, got, e)
			}
		}
	}
	if text, e := card.Write(nil); text != "" || e != api.OK {
		t.Error(text, e)
	}
}

func TestP8_6Read(t *testing.T) {
	one := "0 1 0 0 0 a  b\n"
	first := []api.Entry{entry(0, 1, 0, 0, 0, "a  b")}
	for _, rest := range []string{
		"", "\n", "x", one, "1", "1 1 1 0 0 x", "0 2 1 0 0 x ", "0 2 1 0 0 x \n", "0 2 1 0 0  x\n", "0 2 1 0 0 \n", "0 2 1 0 0\n", "0 2 1 0  x\n", " 0 2 1 0 0 x\n", "00 2 1 0 0 x\n", "0 02 1 0 0 x\n", "0 +2 1 0 0 x\n", "0 2 1 -0 0 x\n",
		"0 2 1 0 0 x\r\n", "0 2 1 0 0 ä\n", "0 2 1 0 0 x\ty\n", "0 2  1 0 0 x\n", "0 3 2 0 0 x\n", "0 2 0 0 0 x\n", "0 2 1 1 0 x\n", "0 1 0 0 0 c\n", "3 1 0 0 0 x\n", "-1 1 0 0 0 x\n", "x 2 1 0 0 x\n", "0 x 1 0 0 x\n", "1 1 2 0 0 x\n",
		"1 1 -1 0 0 x\n", "1 1 1 1 0 x\n", "0 99999999999999999999 1 0 0 x\n", "\n0 2 1 0 0 x\n", "0 2 1 0 0 " + strings.Repeat("x", 61) + "\n", "0 2 1 0 0 x\x00\n", "1 1 1 0 0 x" + strings.Repeat(" ", 5000),
	} {
		got, left := card.Read(one + rest)
		if !slices.Equal(got, first) || left != rest {
			t.Errorf("%q: %v, %q", rest, got, left)
		}
		// Two of these lines could stand at the beginning.
		begins := rest == one || rest == "0 1 0 0 0 c\n"
		if got, left := card.Read(rest); !begins && (len(got) != 0 || left != rest) {
			t.Errorf("%q: %v, %q", rest, got, left)
		}
	}
	for text, want := range map[string]int{
		"0 1 0 0 0 x\n1 1 0 0 0 x\n": 2, "1 1 0 0 0 x\n0 1 0 0 0 x\n": 1, "0 1 0 0 0 x\n2 1 0 0 0 x\n1 1 0 0 0 x\n": 2, "2 1 0 0 0 y\n0 1 0 0 1 x\n": 2, "0 1 0 0 0 x\n0 2 1 0 0 x\n1 1 0 0 0 x\n": 2, "1 1 0 0 0 x\n1 2 0 1 0 x\n0 1 0 1 0 x\n": 2,
		"0 1 0 0 0 x\n0 2 1 0 0 x\n1 1 1 0 0 x\n2 1 1 0 0 y\n1 2 1 1 0 z\n": 5, "0 1 0 0 0 x\n1 1 1 0 0 y\n2 1 0 1 0 z\n": 2,
	} {
		got, rest := card.Read(text)
		lines := strings.SplitAfter(text, "\n")
		if len(got) != want || rest != strings.Join(lines[want:], "") {
			t.Errorf("%q: %v, %q", text, got, rest)
		}
	}
	var full []api.Entry
	for range 60 {
		full = add(full, 1, "x")
	}
	text := write(full)
	got, rest := card.Read(text + "1 61 0 60 0 x\n")
	if !slices.Equal(got, full) || rest != "1 61 0 60 0 x\n" {
		t.Error(len(got), rest)
	}
}

// fold follows the words of P8.7.
func fold(c []api.Entry) card.History {
	var h card.History
	for _, i := range order(c) {
		words := strings.Split(c[i].Text, " ")
		switch {
		case len(words) == 1 && words[0] == "wash":
			h.Washes++
		case len(words) == 1 && words[0] == "bleach":
			h.Bleaches++
			h.Washes = 0
		case len(words) == 2 && words[0] == "cut":
			for n := 1; n <= 99; n++ {
				if words[1] == fmt.Sprint(n) {
					h.Cut += n
				}
			}
		case len(words) == 2 && words[0] == "dye":
			name := words[1]
			if strings.Trim(name, "abcdefghijklmnopqrstuvwxyz0123456789") == "" && len(name) >= 1 && len(name) <= 8 && name[0] >= 'a' {
				h.Color, h.Washes = name, 0
			}
		}
	}
	return h
}

func TestP8_7Fold(t *testing.T) {
	r := rand.New(rand.NewSource(88))
	for range 2000 {
		c := someCard(r)
		if h, e := card.Fold(c); h != fold(c) || e != api.OK {
			t.Fatal(c, h, fold(c), e)
		}
	}
	base := []string{"cut 7", "wash", "bleach", "dye old", "wash", "wash"}
	for text, want := range map[string]card.History{
		"cut 1": {Cut: 8, Washes: 2, Bleaches: 1, Color: "old"}, "cut 99": {Cut: 106, Washes: 2, Bleaches: 1, Color: "old"}, "wash": {Cut: 7, Washes: 3, Bleaches: 1, Color: "old"}, "bleach": {Cut: 7, Washes: 0, Bleaches: 2, Color: "old"},
		"dye c10x5": {Cut: 7, Washes: 0, Bleaches: 1, Color: "c10x5"}, "dye a": {Cut: 7, Washes: 0, Bleaches: 1, Color: "a"}, "dye abcdefg8": {Cut: 7, Washes: 0, Bleaches: 1, Color: "abcdefg8"}, "dye z": {Cut: 7, Washes: 0, Bleaches: 1, Color: "z"},
		"dye a0z9": {Cut: 7, Washes: 0, Bleaches: 1, Color: "a0z9"},
	} {
		checkFold(t, append(base, text), want)
	}
	same := card.History{Cut: 7, Washes: 2, Bleaches: 1, Color: "old"}
	for _, text := range []string{
		"cut 0", "cut 100", "cut 05", "cut +5", "cut -5", "cut", "cut  5", "cut 5 5", "cut x", "Cut 5", "cut5", "cut 5x", "washed", "wash 1", "Wash", "wash  x", "bleach 2", "bleached", "dye", "dye  red", "dye red 2", "dye Red", "dye 1red", "dye abcdefgh9",
		"dye r-d", "dye r_d", "dyered", "comb", "plait aB", "shed 5", "mend 5", "cut 99999999999999999999", "dye a`", "dye a{", "dye {", "dye a/", "dye a:", "hash", "cut 1.5",
	} {
		checkFold(t, append(base, text), same)
	}
	if h, e := card.Fold(nil); h != (card.History{}) || e != api.OK {
		t.Error(h, e)
	}
}

func checkFold(t *testing.T, texts []string, want card.History) {
	t.Helper()
	var c []api.Entry
	for i, text := range texts {
		c = add(c, i%3, text)
	}
	if h, e := card.Fold(c); h != want || e != api.OK {
		t.Error(texts, h, e)
	}
}
