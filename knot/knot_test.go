package knot_test

import (
	"fmt"
	"math"
	"math/big"
	"math/rand"
	"slices"
	"testing"

	"wigmaker/api"
	"wigmaker/hair"
	"wigmaker/knot"
)

func rat(num, den int) api.Rat {
	return api.Rat{Num: num, Den: den}
}

// lowest returns num/den as a valid fraction.
func lowest(num, den int) api.Rat {
	r := big.NewRat(int64(num), int64(den))
	return rat(int(r.Num().Int64()), int(r.Denom().Int64()))
}

func show(x any) string {
	return fmt.Sprintf("%v", x)
}

// badDensities and badPhases are not what they should be.
func badDensities() []api.Rat {
	return []api.Rat{
		{}, {Num: 1}, {Num: 1, Den: -2}, {Num: -1, Den: 2}, {Num: -1, Den: -1}, {Num: 2, Den: 4}, {Num: 0, Den: 2}, {Num: 7, Den: 1}, {Num: 13, Den: 2}, {Num: 6001, Den: 1000},
		{Num: 1, Den: 1001}, {Num: math.MaxInt, Den: 1}, {Num: math.MinInt, Den: 1}, {Num: 1, Den: math.MaxInt}, {Num: 1, Den: math.MinInt}, {Num: math.MinInt, Den: math.MinInt},
	}
}

func badPhases() []api.Rat {
	return append(badDensities(), rat(1, 1), rat(3, 2), rat(1001, 1000))
}

var someDensities = []api.Rat{{Num: 0, Den: 1}, {Num: 1, Den: 1}, {Num: 6, Den: 1}, {Num: 3, Den: 2}, {Num: 1, Den: 1000}, {Num: 5999, Den: 1000}, {Num: 999, Den: 1000}, {Num: 22, Den: 7}}

var somePhases = []api.Rat{{Num: 0, Den: 1}, {Num: 1, Den: 2}, {Num: 2, Den: 3}, {Num: 999, Den: 1000}, {Num: 1, Den: 997}}

// floor returns hole * d + phase, rounded down.
func floor(d, phase api.Rat, hole int) int {
	x := new(big.Rat).Mul(big.NewRat(int64(d.Num), int64(d.Den)), big.NewRat(int64(hole), 1))
	x.Add(x, big.NewRat(int64(phase.Num), int64(phase.Den)))
	return int(new(big.Int).Div(x.Num(), x.Denom()).Int64())
}

func TestP4_1ValidDensity(t *testing.T) {
	for _, d := range someDensities {
		if !knot.ValidDensity(d) {
			t.Error(d)
		}
	}
	for _, d := range badDensities() {
		if knot.ValidDensity(d) {
			t.Error(d)
		}
	}
}

func TestP4_1Row(t *testing.T) {
	for _, d := range someDensities {
		for _, p := range somePhases {
			row, e := knot.Row(d, p, 300)
			if e != api.OK || len(row) != 300 {
				t.Fatal(d, p, len(row), e)
			}
			for i, n := range row {
				want := floor(d, p, i+1) - floor(d, p, i)
				if one, e := knot.Hairs(d, p, i); n != want || one != want || e != api.OK {
					t.Fatal(d, p, i, n, one, want, e)
				}
			}
			for _, x := range [][2]int{{0, 0}, {0, 300}, {7, 8}, {5, 263}, {10000, 10000}, {0, 10000}, {9999, 10000}} {
				if n, e := knot.Stretch(d, p, x[0], x[1]); e != api.OK || n != floor(d, p, x[1])-floor(d, p, x[0]) {
					t.Fatal(d, p, x, n, e)
				}
			}
			if n, e := knot.Hairs(d, p, 10000); e != api.OK || n != floor(d, p, 10001)-floor(d, p, 10000) {
				t.Fatal(d, p, n, e)
			}
		}
	}
	if row, _ := knot.Row(rat(3, 2), rat(0, 1), 4); show(row) != "[1 2 1 2]" {
		t.Error(row)
	}
	if row, _ := knot.Row(rat(3, 2), rat(1, 2), 4); show(row) != "[2 1 2 1]" {
		t.Error(row)
	}
	if row, e := knot.Row(rat(3, 2), rat(1, 2), 0); len(row) != 0 || e != api.OK {
		t.Error(row, e)
	}
	if row, e := knot.Row(rat(3, 2), rat(1, 2), 10000); len(row) != 10000 || e != api.OK {
		t.Error(len(row), e)
	}
}

func TestP4_1Errors(t *testing.T) {
	check := func(d, p api.Rat, hole, from, to int) {
		t.Helper()
		if n, e := knot.Hairs(d, p, hole); n != 0 || e != api.ErrArg {
			t.Error("Hairs", d, p, hole, n, e)
		}
		if row, e := knot.Row(d, p, hole); len(row) != 0 || e != api.ErrArg {
			t.Error("Row", d, p, hole, row, e)
		}
		if n, e := knot.Stretch(d, p, from, to); n != 0 || e != api.ErrArg {
			t.Error("Stretch", d, p, from, to, n, e)
		}
	}
	for _, d := range badDensities() {
		check(d, rat(0, 1), 5, 2, 4)
	}
	for _, p := range badPhases() {
		check(rat(1, 2), p, 5, 2, 4)
	}
	for _, x := range [][3]int{{-1, -1, 5}, {10001, 5, 10001}, {math.MinInt, math.MinInt, 0}, {math.MaxInt, 0, math.MaxInt}, {-1, 5, 4}, {-1, 10000, 9999}, {-1, 10001, 10001}, {-1, -2, -1}, {-1, 1, 0}} {
		check(rat(1, 2), rat(0, 1), x[0], x[1], x[2])
	}
}

func balanced(row []int) bool {
	for width := 1; width <= len(row); width++ {
		for i := 0; i+width <= len(row); i++ {
			for j := 0; j+width <= len(row); j++ {
				x, y := 0, 0
				for k := range width {
					x += row[i+k]
					y += row[j+k]
				}
				if x-y > 1 {
					return false
				}
			}
		}
	}
	return true
}

func TestP4_2Balanced(t *testing.T) {
	r := rand.New(rand.NewSource(42))
	yes := 0
	for range 4000 {
		row := make([]int, r.Intn(12))
		for i := range row {
			row[i] = 5 + r.Intn(2)
		}
		if r.Intn(2) == 0 && len(row) > 0 {
			d := lowest(r.Intn(60), 1+r.Intn(10))
			row, _ = knot.Row(d, rat(0, 1), min(len(row), 9))
			if r.Intn(2) == 0 && len(row) > 0 {
				row[r.Intn(len(row))]++
			}
		}
		got, e := knot.Balanced(row)
		if e != api.OK || got != balanced(row) {
			t.Fatal(row, got, e)
		}
		if got {
			yes++
		}
	}
	if yes < 300 || yes > 3700 {
		t.Error("balanced:", yes)
	}
	for _, d := range someDensities {
		for _, p := range somePhases {
			row, _ := knot.Row(d, p, 200)
			if ok, e := knot.Balanced(row); !ok || e != api.OK {
				t.Error(d, p, e)
			}
		}
	}
	for i, x := range []struct {
		row  []int
		want bool
		e    api.Errno
	}{
		{nil, true, api.OK}, {[]int{7}, true, api.OK}, {[]int{0, 1, 1, 0}, true, api.OK}, {[]int{0, 0, 1, 1}, false, api.OK}, {[]int{3, 5}, false, api.OK}, {[]int{1000000, 999999}, true, api.OK},
		{make([]int, 200), true, api.OK}, {make([]int, 201), false, api.ErrLarge}, {slices.Repeat([]int{-1}, 201), false, api.ErrLarge},
		{[]int{0, -1}, false, api.ErrArg}, {[]int{1000001, 1000000}, false, api.ErrArg}, {[]int{5, 9, -1}, false, api.ErrArg}, {[]int{math.MinInt, math.MaxInt}, false, api.ErrArg},
		{append(append(make([]int, 99), 1), make([]int, 99)...), true, api.OK}, {append(append(make([]int, 99), 1, 1), make([]int, 99)...), false, api.OK}, {append(append(make([]int, 99), 2), make([]int, 99)...), false, api.OK},
	} {
		if ok, e := knot.Balanced(x.row); ok != x.want || e != x.e {
			t.Errorf("%d: %v, %v", i, ok, e)
		}
	}
}

func TestP4_2Densest(t *testing.T) {
	r := rand.New(rand.NewSource(43))
	for range 1000 {
		row := make([]int, 1+r.Intn(12))
		for i := range row {
			row[i] = r.Intn(4)
		}
		for width := 1; width <= len(row); width++ {
			first, most := 0, -1
			for i := 0; i+width <= len(row); i++ {
				sum := 0
				for _, n := range row[i : i+width] {
					sum += n
				}
				if sum > most {
					first, most = i, sum
				}
			}
			if i, n, e := knot.Densest(row, width); e != api.OK || i != first || n != most {
				t.Fatal(row, width, i, n, e)
			}
		}
	}
	full := slices.Repeat([]int{1000000}, 200)
	if i, n, e := knot.Densest(full, 200); i != 0 || n != 200000000 || e != api.OK {
		t.Error(i, n, e)
	}
	for i, x := range []struct {
		row   []int
		width int
		want  api.Errno
	}{
		{make([]int, 201), 0, api.ErrLarge}, {slices.Repeat([]int{-1}, 201), 0, api.ErrLarge}, {[]int{-1}, 0, api.ErrArg}, {[]int{1000001}, 1, api.ErrArg}, {[]int{1, 2, 3}, 0, api.ErrArg},
		{[]int{1, 2, 3}, 4, api.ErrArg}, {[]int{1, 2, 3}, -1, api.ErrArg}, {nil, 0, api.ErrArg}, {nil, 1, api.ErrArg}, {[]int{1}, math.MaxInt, api.ErrArg}, {[]int{1}, math.MinInt, api.ErrArg},
	} {
		if first, n, e := knot.Densest(x.row, x.width); first != 0 || n != 0 || e != x.want {
			t.Errorf("%d: %d, %d, %v", i, first, n, e)
		}
	}
}

func TestP4_3Fade(t *testing.T) {
	r := rand.New(rand.NewSource(44))
	large := 0
	for range 2000 {
		from, to := lowest(r.Intn(13), 1+r.Intn(6)), lowest(r.Intn(13), 1+r.Intn(6))
		if r.Intn(4) == 0 {
			from = lowest(r.Intn(100), 1+r.Intn(100))
		}
		if !knot.ValidDensity(from) || !knot.ValidDensity(to) {
			continue
		}
		n := 1 + r.Intn(60)
		var want []api.Rat
		for k := range n {
			x := big.NewRat(int64(to.Num), int64(to.Den))
			y := big.NewRat(int64(from.Num), int64(from.Den))
			x.Sub(x, y)
			x.Mul(x, big.NewRat(int64(k), int64(max(n-1, 1))))
			x.Add(x, y)
			want = append(want, rat(int(x.Num().Int64()), int(x.Denom().Int64())))
		}
		e := api.OK
		if slices.ContainsFunc(want, func(d api.Rat) bool { return d.Den > 1000 }) {
			want, e = nil, api.ErrLarge
			large++
		}
		if got, err := knot.Fade(from, to, n); err != e || !slices.Equal(got, want) {
			t.Fatal(from, to, n, got, err)
		}
	}
	if large < 20 {
		t.Error("few are large:", large)
	}
	for i, x := range []struct {
		from, to api.Rat
		n        int
		want     string
		e        api.Errno
	}{
		{rat(1, 1), rat(2, 1), 3, "[{1 1} {3 2} {2 1}]", api.OK}, {rat(6, 1), rat(0, 1), 2, "[{6 1} {0 1}]", api.OK}, {rat(1, 1000), rat(1, 999), 1, "[{1 1000}]", api.OK},
		{rat(1, 1000), rat(1, 999), 2, "[{1 1000} {1 999}]", api.OK}, {rat(1, 1000), rat(1, 999), 3, "[]", api.ErrLarge}, {rat(0, 1), rat(1, 1000), 2, "[{0 1} {1 1000}]", api.OK},
		{rat(1, 7), rat(1, 143), 3, "[]", api.ErrLarge}, {rat(0, 1), rat(1, 500), 3, "[{0 1} {1 1000} {1 500}]", api.OK}, {rat(1, 2), rat(1, 2), 60, show(slices.Repeat([]api.Rat{rat(1, 2)}, 60)), api.OK},
		{rat(1, 2), rat(1, 2), 61, "[]", api.ErrArg}, {rat(1, 2), rat(1, 2), 0, "[]", api.ErrArg}, {rat(1, 2), rat(1, 2), -1, "[]", api.ErrArg},
		{rat(1, 2), rat(1, 2), math.MaxInt, "[]", api.ErrArg}, {rat(1, 2), rat(1, 2), math.MinInt, "[]", api.ErrArg},
	} {
		if got, e := knot.Fade(x.from, x.to, x.n); show(got) != x.want || e != x.e {
			t.Errorf("%d: %v, %v", i, got, e)
		}
	}
	for _, d := range badDensities() {
		if got, e := knot.Fade(d, rat(1, 2), 1); len(got) != 0 || e != api.ErrArg {
			t.Error(d, got, e)
		}
		if got, e := knot.Fade(rat(1, 2), d, 1); len(got) != 0 || e != api.ErrArg {
			t.Error(d, got, e)
		}
	}
}

func badWeights() [][]int {
	return [][]int{nil, {}, {0}, {0, 0, 0}, {1, 1, 1, 1, 1, 1, 1}, {0, 0, 0, 0, 0, 0, 0}, {1, -1}, {-1, 2}, {1001}, {5, 1001, 5}, {math.MinInt}, {math.MaxInt, math.MaxInt}}
}

func someWeights(r *rand.Rand) []int {
	list := make([]int, 1+r.Intn(6))
	most := []int{2, 5, 20, 1000}[r.Intn(4)]
	for i := range list {
		list[i] = r.Intn(most + 1)
	}
	if slices.Max(list) == 0 {
		list[0] = most
	}
	return list
}

func total(list []int) int {
	sum := 0
	for _, n := range list {
		sum += n
	}
	return sum
}

// firstBad returns the smallest k for which the first k colors are not as in a
// spread row, or -1.
func firstBad(weights, colors []int) int {
	sum := total(weights)
	for k := range len(colors) + 1 {
		for c, w := range weights {
			n := 0
			for _, color := range colors[:k] {
				if color == c {
					n++
				}
			}
			if far := n*sum - k*w; far >= sum || far <= -sum {
				return k
			}
		}
	}
	return -1
}

func TestP4_4Quotas(t *testing.T) {
	r := rand.New(rand.NewSource(45))
	for range 3000 {
		weights, n := someWeights(r), r.Intn(40)
		if r.Intn(4) == 0 {
			n = r.Intn(601)
		}
		got, e := knot.Quotas(weights, n)
		if e != api.OK || len(got) != len(weights) || total(got) != n {
			t.Fatal(weights, n, got, e)
		}
		sum := total(weights)
		for c, w := range weights {
			more := got[c] - n*w/sum
			if more != 0 && more != 1 {
				t.Fatal(weights, n, got)
			}
			for d, v := range weights {
				x, y := n*w%sum, n*v%sum
				if more == 0 && got[d] > n*v/sum && (y < x || y == x && d > c) {
					t.Fatal(weights, n, got)
				}
			}
		}
	}
	for i, x := range []struct {
		weights []int
		n       int
		want    string
		e       api.Errno
	}{
		{[]int{1, 1, 2}, 4, "[1 1 2]", api.OK}, {[]int{1, 1, 1}, 4, "[2 1 1]", api.OK}, {[]int{1, 1, 1}, 5, "[2 2 1]", api.OK}, {[]int{1, 2}, 2, "[1 1]", api.OK}, {[]int{0, 3}, 2, "[0 2]", api.OK},
		{[]int{1000, 1000, 1000, 1000, 1000, 1000}, 600, "[100 100 100 100 100 100]", api.OK}, {[]int{7}, 0, "[0]", api.OK}, {[]int{1}, 601, "[]", api.ErrArg}, {[]int{1}, -1, "[]", api.ErrArg},
		{[]int{1}, math.MinInt, "[]", api.ErrArg}, {[]int{1}, math.MaxInt, "[]", api.ErrArg}, {[]int{2, 3, 5}, 1, "[0 0 1]", api.OK},
	} {
		if got, e := knot.Quotas(x.weights, x.n); show(got) != x.want || e != x.e {
			t.Errorf("%d: %v, %v", i, got, e)
		}
	}
	for _, weights := range badWeights() {
		if got, e := knot.Quotas(weights, 3); len(got) != 0 || e != api.ErrArg {
			t.Error(weights, got, e)
		}
	}
}

func TestP4_4Spread(t *testing.T) {
	check := func(weights []int, n int) {
		t.Helper()
		row, e := knot.Spread(weights, n)
		if e != api.OK || len(row) != n {
			t.Fatal(weights, n, len(row), e)
		}
		for _, c := range row {
			if c < 0 || c >= len(weights) || weights[c] == 0 {
				t.Fatal(weights, row)
			}
		}
		if k := firstBad(weights, row); k >= 0 {
			t.Fatal(weights, row, k)
		}
		if again, _ := knot.Spread(slices.Clone(weights), n); !slices.Equal(row, again) {
			t.Fatal("equal calls differ", weights, n)
		}
	}
	for a := range 5 {
		for b := range 5 {
			for c := range 5 {
				for d := range 5 {
					if a+b+c+d > 0 {
						check([]int{a, b, c, d}, a+b+c+d+3)
					}
				}
			}
		}
	}
	r := rand.New(rand.NewSource(46))
	for range 300 {
		check(someWeights(r), r.Intn(200))
	}
	check([]int{1000, 1000, 1000, 1000, 1000, 1000}, 600)
	check([]int{1000, 1, 1, 1, 1, 1}, 600)
	check([]int{500, 250, 125, 63, 31, 30}, 600)
	check([]int{3}, 0)
	for _, weights := range badWeights() {
		if got, e := knot.Spread(weights, 3); len(got) != 0 || e != api.ErrArg {
			t.Error(weights, got, e)
		}
	}
	for _, n := range []int{-1, 601, math.MinInt, math.MaxInt} {
		if got, e := knot.Spread([]int{1, 2}, n); len(got) != 0 || e != api.ErrArg {
			t.Error(n, got, e)
		}
	}
}

func TestP4_5IsSpread(t *testing.T) {
	r := rand.New(rand.NewSource(47))
	yes := 0
	for range 4000 {
		weights := someWeights(r)
		colors, _ := knot.Spread(weights, r.Intn(30))
		for range r.Intn(3) {
			if len(colors) > 1 {
				i := 1 + r.Intn(len(colors)-1)
				colors[i], colors[i-1] = colors[i-1], colors[i]
			}
		}
		want := firstBad(weights, colors)
		k, ok, e := knot.IsSpread(weights, colors)
		if e != api.OK || ok != (want < 0) || k != max(want, 0) {
			t.Fatal(weights, colors, k, ok, e, want)
		}
		if ok {
			yes++
		}
	}
	if yes < 300 || yes > 3700 {
		t.Error("spread:", yes)
	}
	for i, x := range []struct {
		weights, colors []int
		k               int
		ok              bool
		e               api.Errno
	}{
		{[]int{1, 1, 2}, []int{2, 0, 1, 2}, 0, true, api.OK}, {[]int{1, 1, 2}, []int{0, 1, 2, 2}, 2, false, api.OK}, {[]int{1, 0}, []int{0, 1}, 2, false, api.OK}, {[]int{0, 1}, []int{0}, 1, false, api.OK},
		{[]int{1}, nil, 0, true, api.OK}, {[]int{1}, make([]int, 600), 0, true, api.OK}, {[]int{1}, make([]int, 601), 0, false, api.ErrLarge}, {[]int{1}, slices.Repeat([]int{9}, 601), 0, false, api.ErrLarge},
		{[]int{1, 1}, []int{0, 2}, 0, false, api.ErrArg}, {[]int{1, 1}, []int{0, 0, -1}, 0, false, api.ErrArg}, {[]int{1, 1}, []int{math.MaxInt}, 0, false, api.ErrArg}, {[]int{1, 1}, []int{math.MinInt}, 0, false, api.ErrArg},
		{[]int{1, 1}, []int{0, 0}, 2, false, api.OK},
	} {
		if k, ok, e := knot.IsSpread(x.weights, x.colors); k != x.k || ok != x.ok || e != x.e {
			t.Errorf("%d: %d, %v, %v", i, k, ok, e)
		}
	}
	for _, weights := range badWeights() {
		if k, ok, e := knot.IsSpread(weights, make([]int, 601)); k != 0 || ok || e != api.ErrArg {
			t.Error(weights, k, ok, e)
		}
	}
}

func TestP4_5Runs(t *testing.T) {
	for i, x := range []struct {
		colors []int
		want   int
		e      api.Errno
	}{
		{nil, 0, api.OK}, {[]int{5}, 1, api.OK}, {[]int{0, 1, 0}, 1, api.OK}, {[]int{1, 1, 0}, 2, api.OK}, {[]int{0, 1, 1, 1, 2, 2}, 3, api.OK}, {[]int{3, 3, 0, 3, 3, 3}, 3, api.OK},
		{[]int{-7, -7, math.MaxInt, math.MinInt}, 2, api.OK}, {make([]int, 600), 600, api.OK}, {make([]int, 601), 0, api.ErrLarge}, {[]int{2, 2, 2, 1, 1, 0, 0}, 3, api.OK},
	} {
		if n, e := knot.Runs(x.colors); n != x.want || e != x.e {
			t.Errorf("%d: %d, %v", i, n, e)
		}
	}
}

func zone(rows, holes, perKnot int, d api.Rat, double bool) api.Zone {
	return api.Zone{Rows: rows, Holes: holes, PerKnot: perKnot, Density: d, Double: double}
}

func badZones() []api.Zone {
	list := []api.Zone{
		{}, zone(-1, 1, 1, rat(1, 1), false), zone(201, 1, 1, rat(1, 1), false), zone(1, -1, 1, rat(1, 1), false), zone(1, 1001, 1, rat(1, 1), false), zone(1, 1, 0, rat(1, 1), false), zone(1, 1, 7, rat(1, 1), true),
		zone(math.MaxInt, 1, 1, rat(1, 1), false), zone(1, math.MaxInt, 1, rat(1, 1), false), zone(1, 1, math.MinInt, rat(1, 1), false),
	}
	for _, d := range badDensities() {
		list = append(list, zone(1, 1, 1, d, false))
	}
	return list
}

func someZone(r *rand.Rand) api.Zone {
	return zone(r.Intn(12), r.Intn(30), 1+r.Intn(6), someDensities[r.Intn(len(someDensities))], r.Intn(2) == 0)
}

// count counts the hairs and knots of a zone, hole by hole.
func count(z api.Zone) (hairs, knots int) {
	for range z.Rows {
		for hole := range z.Holes {
			n := floor(z.Density, rat(0, 1), hole+1) - floor(z.Density, rat(0, 1), hole)
			hairs += n
			for ; n > 0; n -= z.PerKnot {
				knots++
			}
		}
	}
	return hairs, knots
}

func TestP4_6(t *testing.T) {
	r := rand.New(rand.NewSource(48))
	for range 300 {
		z := someZone(r)
		hairs, knots := count(z)
		if e := knot.Validate(z); e != api.OK {
			t.Fatal(z, e)
		}
		if n, e := knot.ZoneHairs(z); n != hairs || e != api.OK {
			t.Fatal(z, n, hairs, e)
		}
		if n, e := knot.ZoneKnots(z); n != knots || e != api.OK {
			t.Fatal(z, n, knots, e)
		}
	}
	example := zone(10, 20, 2, rat(3, 2), false)
	if n, _ := knot.ZoneHairs(example); n != 300 {
		t.Error(n)
	}
	if n, _ := knot.ZoneKnots(example); n != 200 {
		t.Error(n)
	}
	most := zone(200, 1000, 1, rat(6, 1), true)
	if n, e := knot.ZoneKnots(most); n != 1200000 || e != api.OK {
		t.Error(n, e)
	}
	if n, e := knot.ZoneHairs(zone(200, 1000, 6, rat(6, 1), true)); n != 1200000 || e != api.OK {
		t.Error(n, e)
	}
	for _, z := range []api.Zone{zone(0, 5, 1, rat(1, 1), false), zone(5, 0, 6, rat(1, 1), false), zone(5, 5, 1, rat(0, 1), false)} {
		if n, e := knot.ZoneHairs(z); n != 0 || e != api.OK {
			t.Error(z, n, e)
		}
		if n, e := knot.ZoneKnots(z); n != 0 || e != api.OK {
			t.Error(z, n, e)
		}
	}
	for _, z := range badZones() {
		if e := knot.Validate(z); e != api.ErrArg {
			t.Error(z, e)
		}
		if n, e := knot.ZoneHairs(z); n != 0 || e != api.ErrArg {
			t.Error(z, n, e)
		}
		if n, e := knot.ZoneKnots(z); n != 0 || e != api.ErrArg {
			t.Error(z, n, e)
		}
	}
}

func TestP4_7Work(t *testing.T) {
	r := rand.New(rand.NewSource(49))
	ties := 0
	for range 1000 {
		var l []api.Zone
		work := new(big.Rat)
		for range r.Intn(9) {
			z := someZone(r)
			l = append(l, z)
			_, knots := count(z)
			if z.Double {
				work.Add(work, big.NewRat(int64(3*knots), 2))
			} else {
				work.Add(work, big.NewRat(int64(knots), 1))
			}
		}
		rate := 1 + r.Intn(3000)
		x := new(big.Rat).Mul(work, big.NewRat(60, int64(rate)))
		up := new(big.Int).Add(x.Num(), new(big.Int).Sub(x.Denom(), big.NewInt(1)))
		up.Div(up, x.Denom())
		if n, e := knot.Minutes(l, rate); e != api.OK || int64(n) != up.Int64() {
			t.Fatal(l, rate, n, up, e)
		}
		farthings := r.Intn(60)
		y := new(big.Rat).Mul(work, big.NewRat(int64(farthings), 100))
		n, e := knot.Wage(l, farthings)
		far := new(big.Rat).Sub(y, big.NewRat(int64(n), 1))
		half := far.Abs(far).Cmp(big.NewRat(1, 2))
		if e != api.OK || half > 0 || half == 0 && n%2 != 0 {
			t.Fatal(l, farthings, n, y, e)
		}
		if half == 0 {
			ties++
		}
	}
	if ties == 0 {
		t.Error("no wage lies between two")
	}
	most := slices.Repeat([]api.Zone{zone(200, 1000, 1, rat(6, 1), true)}, 8)
	if n, e := knot.Minutes(most, 1); n != 864000000 || e != api.OK {
		t.Error(n, e)
	}
	if n, e := knot.Wage(most, 10000); n != 1440000000 || e != api.OK {
		t.Error(n, e)
	}
	one := []api.Zone{zone(1, 1, 1, rat(1, 1), false)}
	for _, x := range [][2]int{{60, 1}, {59, 2}, {61, 1}, {30, 2}, {3000, 1}, {1, 60}} {
		if n, e := knot.Minutes(one, x[0]); n != x[1] || e != api.OK {
			t.Error(x, n, e)
		}
	}
	for _, x := range [][2]int{{0, 0}, {50, 0}, {51, 1}, {150, 2}, {250, 2}, {10000, 100}} {
		if n, e := knot.Wage(one, x[0]); n != x[1] || e != api.OK {
			t.Error(x, n, e)
		}
	}
	// Two zones of 1/2 minute each are rounded together.
	halves := slices.Repeat([]api.Zone{zone(1, 1, 1, rat(1, 1), false)}, 2)
	if n, e := knot.Minutes(halves, 120); n != 1 || e != api.OK {
		t.Error(n, e)
	}
	if n, e := knot.Wage(halves, 50); n != 1 || e != api.OK {
		t.Error(n, e)
	}
	if n, e := knot.Minutes(nil, 5); n != 0 || e != api.OK {
		t.Error(n, e)
	}
}

func TestP4_7Supply(t *testing.T) {
	z := zone(2, 2, 1, rat(3, 2), true) // 6 hairs
	b := api.Bundle{Right: []int{5, 0, 6, 1}, Wrong: []int{0, 0, 0, 4}}
	for i, x := range []struct {
		l     []api.Zone
		least int
		want  bool
	}{
		{nil, 9, true}, {nil, math.MaxInt, true}, {[]api.Zone{z}, 3, true}, {[]api.Zone{z}, 4, false}, {[]api.Zone{z, z}, 3, false}, {[]api.Zone{z, z}, 1, true}, {[]api.Zone{z, z}, math.MinInt, true},
		{[]api.Zone{z, z, z}, 1, false}, {[]api.Zone{z, zone(1, 5, 2, rat(1, 1), false)}, 2, true}, {[]api.Zone{z, zone(1, 5, 2, rat(1, 1), false)}, 4, false}, {[]api.Zone{z}, math.MaxInt, false},
		{[]api.Zone{z, zone(1, 6, 2, rat(1, 1), false)}, 2, false},
	} {
		if ok, e := knot.Supply(x.l, b, x.least); ok != x.want || e != api.OK {
			t.Errorf("%d: %v, %v", i, ok, e)
		}
	}
	bad := api.Bundle{Right: []int{-1}}
	if ok, e := knot.Supply([]api.Zone{z}, bad, 1); ok || e != api.ErrArg {
		t.Error(ok, e)
	}
	large := api.Bundle{Right: make([]int, 25)}
	if ok, e := knot.Supply([]api.Zone{z}, large, 1); ok || e != hair.Validate(large) {
		t.Error(ok, e)
	}
	if ok, e := knot.Supply(nil, large, 1); ok || e != api.ErrLarge {
		t.Error(ok, e)
	}
	if ok, e := knot.Supply([]api.Zone{{}}, large, 1); ok || e != api.ErrArg {
		t.Error(ok, e)
	}
	if ok, e := knot.Supply(slices.Repeat([]api.Zone{z}, 9), bad, 1); ok || e != api.ErrLarge {
		t.Error(ok, e)
	}
}

func TestP4_7Errors(t *testing.T) {
	good := zone(2, 2, 1, rat(3, 2), true)
	check := func(l []api.Zone, n int, want api.Errno) {
		t.Helper()
		if n, e := knot.Minutes(l, n); n != 0 || e != want {
			t.Error("Minutes", l, n, e, want)
		}
		if n, e := knot.Wage(l, n); n != 0 || e != want {
			t.Error("Wage", l, n, e, want)
		}
	}
	for _, z := range badZones() {
		check([]api.Zone{good, z}, 5, api.ErrArg)
		check(slices.Repeat([]api.Zone{z}, 9), 5, api.ErrLarge)
		if ok, e := knot.Supply([]api.Zone{good, z}, api.Bundle{}, 1); ok || e != api.ErrArg {
			t.Error(z, ok, e)
		}
	}
	for _, n := range []int{-1, 10001, math.MinInt, math.MaxInt} {
		check([]api.Zone{good}, n, api.ErrArg)
		check(slices.Repeat([]api.Zone{good}, 9), n, api.ErrLarge)
	}
	for _, rate := range []int{0, 3001} {
		if n, e := knot.Minutes(nil, rate); n != 0 || e != api.ErrArg {
			t.Error(rate, n, e)
		}
	}
	if n, e := knot.Minutes(slices.Repeat([]api.Zone{good}, 8), 3000); n != 2 || e != api.OK {
		t.Error(n, e)
	}
}

// TestMemory checks R5.
func TestMemory(t *testing.T) {
	weights, colors, row := []int{1, 2, 3}, []int{2, 1, 2, 0, 2, 1}, []int{1, 2, 1, 2}
	quotas, _ := knot.Quotas(weights, 6)
	spread, _ := knot.Spread(weights, 6)
	knot.IsSpread(weights, colors)
	knot.Runs(colors)
	knot.Balanced(row)
	knot.Densest(row, 2)
	quotas[0], spread[0] = 9, 9
	if show(weights)+show(colors)+show(row) != "[1 2 3][2 1 2 0 2 1][1 2 1 2]" {
		t.Error("an argument was changed", weights, colors, row)
	}
	first, _ := knot.Row(rat(3, 2), rat(0, 1), 3)
	first[0] = 9
	if second, _ := knot.Row(rat(3, 2), rat(0, 1), 3); show(second) != "[1 2 1]" {
		t.Error("a result is kept", second)
	}
}
