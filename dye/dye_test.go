package dye_test

import (
	"fmt"
	"math"
	"math/big"
	"math/rand"
	"slices"
	"testing"

	"wigmaker/api"
	"wigmaker/dye"
)

func shade(level, tone, bleached int) api.Shade {
	return api.Shade{Level: level, Tone: tone, Bleached: bleached}
}

func show(x any) string {
	return fmt.Sprintf("%v", x)
}

func allShades() []api.Shade {
	var list []api.Shade
	for level := 1; level <= 10; level++ {
		for tone := 0; tone <= 5; tone++ {
			for bleached := 0; bleached <= 3; bleached++ {
				list = append(list, shade(level, tone, bleached))
			}
		}
	}
	return list
}

func badShades() []api.Shade {
	list := []api.Shade{{}}
	for _, n := range []int{math.MinInt, -1, 11, math.MaxInt} {
		list = append(list, shade(n, 0, 0), shade(5, n, 0), shade(5, 0, n))
	}
	return append(list, shade(0, 0, 0), shade(5, 6, 0), shade(5, 0, 4))
}

// badColors are levels and tones that no shade has.
var badColors = [][2]int{{0, 0}, {11, 0}, {5, -1}, {5, 6}, {math.MinInt, 0}, {math.MaxInt, 0}, {5, math.MinInt}, {5, math.MaxInt}}

func someShade(r *rand.Rand) api.Shade {
	return shade(1+r.Intn(10), r.Intn(6), r.Intn(4))
}

func TestP5_1(t *testing.T) {
	for _, s := range allShades() {
		if !dye.ValidShade(s) {
			t.Error(s)
		}
		want, e := shade(min(s.Level+2, 10), 0, s.Bleached+1), api.OK
		if s.Bleached == 3 {
			want, e = api.Shade{}, api.ErrRule
		}
		if got, err := dye.Bleach(s); got != want || err != e {
			t.Error(s, got, err)
		}
		for level := 1; level <= 10; level++ {
			for tone := 0; tone <= 5; tone++ {
				want, e := shade(level, tone, s.Bleached), api.OK
				if level > s.Level {
					want, e = api.Shade{}, api.ErrRule
				}
				if got, err := dye.Dye(s, level, tone); got != want || err != e {
					t.Error(s, level, tone, got, err)
				}
			}
		}
		for _, c := range badColors {
			if got, e := dye.Dye(s, c[0], c[1]); got != (api.Shade{}) || e != api.ErrArg {
				t.Error(s, c, got, e)
			}
		}
	}
	for _, s := range badShades() {
		if dye.ValidShade(s) {
			t.Error(s)
		}
		if got, e := dye.Bleach(s); got != (api.Shade{}) || e != api.ErrArg {
			t.Error(s, got, e)
		}
		if got, e := dye.Dye(s, 1, 0); got != (api.Shade{}) || e != api.ErrArg {
			t.Error(s, got, e)
		}
	}
}

// bath reports whether b is what one bath makes of a.
func bath(a, b api.Shade) bool {
	if a.Bleached < 3 && b == shade(min(a.Level+2, 10), 0, a.Bleached+1) {
		return true
	}
	return b.Bleached == a.Bleached && b.Level >= 1 && b.Level <= a.Level && b.Tone >= 0 && b.Tone <= 5
}

// distances returns the number of baths from a shade to each color, -1 for
// those that are not reached.
func distances(s api.Shade) [11][6]int {
	var least [11][6]int
	for i := range least {
		for j := range least[i] {
			least[i][j] = -1
		}
	}
	at := map[api.Shade]int{s: 0}
	queue := []api.Shade{s}
	for len(queue) > 0 {
		a := queue[0]
		queue = queue[1:]
		if least[a.Level][a.Tone] < 0 {
			least[a.Level][a.Tone] = at[a]
		}
		for _, b := range allShades() {
			if _, seen := at[b]; !seen && bath(a, b) {
				at[b] = at[a] + 1
				queue = append(queue, b)
			}
		}
	}
	return least
}

func TestP5_2(t *testing.T) {
	for _, s := range allShades() {
		least := distances(s)
		for level := 1; level <= 10; level++ {
			for tone := 0; tone <= 5; tone++ {
				want := least[level][tone]
				if n, ok, e := dye.Baths(s, level, tone); e != api.OK || ok != (want >= 0) || n != max(want, 0) {
					t.Fatal(s, level, tone, n, ok, e, want)
				}
				path, ok, e := dye.Path(s, level, tone)
				if e != api.OK || ok != (want >= 0) || len(path) != max(want, 0) {
					t.Fatal(s, level, tone, path, ok, e, want)
				}
				at := s
				for _, next := range path {
					if !bath(at, next) {
						t.Fatal(s, level, tone, path)
					}
					at = next
				}
				if ok && (at.Level != level || at.Tone != tone) {
					t.Fatal(s, level, tone, path)
				}
				if again, _, _ := dye.Path(s, level, tone); !slices.Equal(path, again) {
					t.Fatal("equal calls differ", s, level, tone)
				}
			}
		}
	}
	if n, ok, _ := dye.Baths(shade(2, 0, 0), 5, 3); n != 3 || !ok {
		t.Error(n, ok)
	}
	check := func(s api.Shade, level, tone int) {
		t.Helper()
		if n, ok, e := dye.Baths(s, level, tone); n != 0 || ok || e != api.ErrArg {
			t.Error(s, level, tone, n, ok, e)
		}
		if path, ok, e := dye.Path(s, level, tone); len(path) != 0 || ok || e != api.ErrArg {
			t.Error(s, level, tone, path, ok, e)
		}
	}
	for _, s := range badShades() {
		check(s, 5, 0)
		check(s, s.Level, s.Tone)
	}
	for _, c := range badColors {
		check(shade(5, 0, 0), c[0], c[1])
	}
}

func TestP5_3(t *testing.T) {
	all := allShades()
	for _, a := range all {
		for _, b := range all {
			steps := 0
			for (a.Tone+steps)%6 != b.Tone && (a.Tone-steps+6)%6 != b.Tone {
				steps++
			}
			want := 3*max(a.Level-b.Level, b.Level-a.Level) + steps
			if n, e := dye.Differ(a, b); n != want || e != api.OK {
				t.Fatal(a, b, n, want, e)
			}
		}
	}
	for _, s := range badShades() {
		if n, e := dye.Differ(s, shade(5, 0, 0)); n != 0 || e != api.ErrArg {
			t.Error(s, n, e)
		}
		if n, e := dye.Differ(shade(5, 0, 0), s); n != 0 || e != api.ErrArg {
			t.Error(s, n, e)
		}
	}
}

func part(s api.Shade, weight int) api.Part {
	return api.Part{Shade: s, Weight: weight}
}

var black, brown, fair = shade(1, 0, 0), shade(4, 2, 1), shade(9, 1, 3)

type badBlend struct {
	l    []api.Part
	want api.Errno
}

func badBlends() []badBlend {
	list := []badBlend{
		{nil, api.ErrArg}, {[]api.Part{}, api.ErrArg}, {make([]api.Part, 7), api.ErrLarge}, {slices.Repeat([]api.Part{part(black, 1)}, 7), api.ErrLarge},
		{[]api.Part{part(black, 1), part(brown, 0)}, api.ErrArg}, {[]api.Part{part(black, 1001), part(brown, 1)}, api.ErrArg}, {[]api.Part{part(black, -1)}, api.ErrArg},
		{[]api.Part{part(black, math.MaxInt)}, api.ErrArg}, {[]api.Part{part(black, math.MinInt)}, api.ErrArg},
	}
	for _, s := range badShades() {
		list = append(list, badBlend{[]api.Part{part(black, 1), part(s, 1)}, api.ErrArg})
	}
	return list
}

// someBlend has few shades, so that blends have some in common.
func someBlend(r *rand.Rand) []api.Part {
	few := []api.Shade{black, brown, fair, shade(1, 0, 1), shade(1, 1, 0), shade(2, 0, 0), shade(9, 1, 2), shade(9, 0, 3)}
	var list []api.Part
	most := []int{1, 4, 12, 1000}[r.Intn(4)]
	for range 1 + r.Intn(6) {
		list = append(list, part(few[r.Intn(len(few))], 1+r.Intn(most)))
	}
	return list
}

// shares returns the shares of a blend.
func shares(l []api.Part) map[api.Shade]*big.Rat {
	sum := int64(0)
	for _, p := range l {
		sum += int64(p.Weight)
	}
	m := map[api.Shade]*big.Rat{}
	for _, p := range l {
		if m[p.Shade] == nil {
			m[p.Shade] = new(big.Rat)
		}
		m[p.Shade].Add(m[p.Shade], big.NewRat(int64(p.Weight), sum))
	}
	return m
}

// blend returns the normal blend with some shares, and the error that a
// function has for it.
func blend(m map[api.Shade]*big.Rat) ([]api.Part, api.Errno) {
	den := big.NewInt(1)
	for _, x := range m {
		by := new(big.Int).GCD(nil, nil, den, x.Denom())
		den.Mul(den, new(big.Int).Div(x.Denom(), by))
	}
	var list []api.Part
	for _, s := range allShades() {
		if x := m[s]; x != nil && x.Sign() > 0 {
			y := new(big.Rat).Mul(x, new(big.Rat).SetInt(den))
			list = append(list, part(s, int(y.Num().Int64())))
		}
	}
	if len(list) > 6 || slices.ContainsFunc(list, func(p api.Part) bool { return p.Weight > 1000 }) {
		return nil, api.ErrLarge
	}
	return list, api.OK
}

func TestP5_4Normal(t *testing.T) {
	r := rand.New(rand.NewSource(54))
	large := 0
	for range 3000 {
		l := someBlend(r)
		before := show(l)
		if e := dye.ValidateBlend(l); e != api.OK {
			t.Fatal(l, e)
		}
		want, e := blend(shares(l))
		if got, err := dye.Normal(l); err != e || !slices.Equal(got, want) {
			t.Fatal(l, got, want, err)
		}
		if show(l) != before {
			t.Fatal("the argument was changed", before, l)
		}
		if e == api.ErrLarge {
			large++
		}
	}
	if large == 0 {
		t.Error("none was large")
	}
	for _, x := range badBlends() {
		if e := dye.ValidateBlend(x.l); e != x.want {
			t.Error(x.l, e, x.want)
		}
		if got, e := dye.Normal(x.l); len(got) != 0 || e != x.want {
			t.Error(x.l, got, e)
		}
	}
	full := []api.Part{part(fair, 1000), part(black, 1000), part(brown, 1000), part(fair, 1000), part(black, 1000), part(brown, 1000)}
	if got, e := dye.Normal(full); e != api.OK || show(got) != show([]api.Part{part(black, 1), part(brown, 1), part(fair, 1)}) {
		t.Error(got, e)
	}
	if got, e := dye.Normal([]api.Part{part(black, 1000), part(brown, 3), part(black, 1)}); len(got) != 0 || e != api.ErrLarge {
		t.Error(got, e)
	}
	if got, e := dye.Normal([]api.Part{part(black, 999), part(brown, 3), part(black, 1)}); e != api.OK || show(got) != show([]api.Part{part(black, 1000), part(brown, 3)}) {
		t.Error(got, e)
	}
}

func TestP5_4Mix(t *testing.T) {
	r := rand.New(rand.NewSource(55))
	errors := 0
	for range 4000 {
		a, b := someBlend(r), someBlend(r)
		before := show(a) + show(b)
		wa, wb := r.Intn(4), r.Intn(4)
		if r.Intn(5) == 0 {
			wa, wb = r.Intn(1001), r.Intn(1001)
		}
		got, err := dye.Mix(a, wa, b, wb)
		if wa+wb == 0 {
			if err != api.ErrArg || len(got) != 0 {
				t.Fatal(a, b, got, err)
			}
			continue
		}
		m := shares(a)
		for _, x := range m {
			x.Mul(x, big.NewRat(int64(wa), int64(wa+wb)))
		}
		for s, x := range shares(b) {
			if m[s] == nil {
				m[s] = new(big.Rat)
			}
			m[s].Add(m[s], x.Mul(x, big.NewRat(int64(wb), int64(wa+wb))))
		}
		want, e := blend(m)
		if err != e || !slices.Equal(got, want) || show(a)+show(b) != before {
			t.Fatal(a, wa, b, wb, got, want, err)
		}
		if e != api.OK {
			errors++
		}
	}
	if errors < 50 {
		t.Error("few were large:", errors)
	}
	one, two := []api.Part{part(black, 1)}, []api.Part{part(fair, 1)}
	for i, x := range []struct {
		wa, wb int
		want   string
		e      api.Errno
	}{
		{1, 0, show(one), api.OK}, {0, 1000, show(two), api.OK}, {500, 1000, show([]api.Part{part(black, 1), part(fair, 2)}), api.OK}, {1000, 999, show([]api.Part{part(black, 1000), part(fair, 999)}), api.OK},
		{0, 0, "[]", api.ErrArg}, {-1, 1, "[]", api.ErrArg}, {1, -1, "[]", api.ErrArg}, {1001, 1, "[]", api.ErrArg}, {1, 1001, "[]", api.ErrArg}, {-5, 5, "[]", api.ErrArg},
		{math.MaxInt, 1, "[]", api.ErrArg}, {1, math.MinInt, "[]", api.ErrArg}, {math.MinInt, math.MinInt, "[]", api.ErrArg},
	} {
		if got, e := dye.Mix(one, x.wa, two, x.wb); show(got) != x.want || e != x.e {
			t.Errorf("%d: %v, %v", i, got, e)
		}
	}
	many := func(from int) []api.Part {
		var list []api.Part
		for level := from; level < from+4; level++ {
			list = append(list, part(shade(level, 0, 0), 1))
		}
		return list
	}
	if got, e := dye.Mix(many(1), 1, many(3), 1); e != api.OK || len(got) != 6 {
		t.Error(got, e)
	}
	if got, e := dye.Mix(many(1), 1, many(4), 1); e != api.ErrLarge || len(got) != 0 {
		t.Error(got, e)
	}
	if got, e := dye.Mix(many(1), 0, many(5), 1); e != api.OK || len(got) != 4 {
		t.Error(got, e)
	}
	// A blend that Normal refuses can be mixed with the weight 0.
	if got, e := dye.Mix([]api.Part{part(black, 1000), part(brown, 3), part(black, 1)}, 0, one, 1); e != api.OK || show(got) != show(one) {
		t.Error(got, e)
	}
}

func TestP5_4Common(t *testing.T) {
	good := []api.Part{part(black, 1)}
	for i, x := range badBlends() {
		for j, y := range append(badBlends(), badBlend{good, api.OK}) {
			got, e := dye.Mix(x.l, -1, y.l, 0)
			apart, e2 := dye.Apart(x.l, y.l)
			ok, e3 := dye.Matches(x.l, y.l, api.Rat{})
			if e != x.want || e2 != x.want || e3 != x.want || len(got) != 0 || apart != (api.Rat{}) || ok {
				t.Errorf("%d, %d: %v, %v, %v, %v, %v, %v", i, j, got, e, apart, e2, ok, e3)
			}
		}
		got, e := dye.Mix(good, -1, x.l, 0)
		apart, e2 := dye.Apart(good, x.l)
		ok, e3 := dye.Matches(good, x.l, api.Rat{})
		if e != x.want || e2 != x.want || e3 != x.want || len(got) != 0 || apart != (api.Rat{}) || ok {
			t.Errorf("%d: %v, %v, %v, %v, %v, %v", i, got, e, apart, e2, ok, e3)
		}
	}
}

func TestP5_5(t *testing.T) {
	r := rand.New(rand.NewSource(56))
	for range 3000 {
		a, b := someBlend(r), someBlend(r)
		if r.Intn(8) == 0 {
			b = slices.Clone(a)
			slices.Reverse(b)
		}
		sum := new(big.Rat)
		x, y := shares(a), shares(b)
		for _, s := range allShades() {
			d := new(big.Rat)
			if x[s] != nil {
				d.Add(d, x[s])
			}
			if y[s] != nil {
				d.Sub(d, y[s])
			}
			sum.Add(sum, d.Abs(d))
		}
		sum.Mul(sum, big.NewRat(1, 2))
		q, e := dye.Apart(a, b)
		if e != api.OK || int64(q.Num) != sum.Num().Int64() || int64(q.Den) != sum.Denom().Int64() {
			t.Fatal(a, b, q, sum, e)
		}
		bound := big.NewRat(int64(r.Intn(11)), 10)
		if q.Den <= 1000 && r.Intn(3) == 0 {
			bound = sum
		}
		ok, e := dye.Matches(a, b, api.Rat{Num: int(bound.Num().Int64()), Den: int(bound.Denom().Int64())})
		if e != api.OK || ok != (sum.Cmp(bound) <= 0) {
			t.Fatal(a, b, bound, ok, e)
		}
	}
	one, other := []api.Part{part(black, 1), part(fair, 1)}, []api.Part{part(black, 3), part(fair, 1)}
	if q, e := dye.Apart(one, other); q != (api.Rat{Num: 1, Den: 4}) || e != api.OK {
		t.Error(q, e)
	}
	if q, e := dye.Apart(one, one); q != (api.Rat{Num: 0, Den: 1}) || e != api.OK {
		t.Error(q, e)
	}
	if q, e := dye.Apart([]api.Part{part(shade(3, 0, 0), 5)}, []api.Part{part(shade(3, 0, 1), 5)}); q != (api.Rat{Num: 1, Den: 1}) || e != api.OK {
		t.Error(q, e)
	}
	for _, x := range []struct {
		bound api.Rat
		want  bool
		e     api.Errno
	}{
		{api.Rat{Num: 1, Den: 4}, true, api.OK}, {api.Rat{Num: 249, Den: 1000}, false, api.OK}, {api.Rat{Num: 1, Den: 1}, true, api.OK}, {api.Rat{Num: 0, Den: 1}, false, api.OK},
		{api.Rat{}, false, api.ErrArg}, {api.Rat{Num: 0, Den: 2}, false, api.ErrArg}, {api.Rat{Num: 2, Den: 4}, false, api.ErrArg}, {api.Rat{Num: 500, Den: 1001}, false, api.ErrArg}, {api.Rat{Num: 3, Den: 2}, false, api.ErrArg},
		{api.Rat{Num: -1, Den: 2}, false, api.ErrArg}, {api.Rat{Num: -2, Den: 3}, false, api.ErrArg}, {api.Rat{Num: -3, Den: 4}, false, api.ErrArg}, {api.Rat{Num: -1, Den: -2}, false, api.ErrArg}, {api.Rat{Num: 1, Den: -2}, false, api.ErrArg}, {api.Rat{Num: 1, Den: 0}, false, api.ErrArg},
		{api.Rat{Num: math.MaxInt, Den: math.MaxInt}, false, api.ErrArg}, {api.Rat{Num: math.MinInt, Den: math.MinInt}, false, api.ErrArg}, {api.Rat{Num: 2, Den: 1}, false, api.ErrArg},
	} {
		if ok, e := dye.Matches(one, other, x.bound); ok != x.want || e != x.e {
			t.Error(x.bound, ok, e)
		}
	}
}

func lot(weight int, s api.Shade) api.Lot {
	return api.Lot{Weight: weight, Shade: s}
}

func want(weight int, s api.Shade, near int) api.Want {
	return api.Want{Weight: weight, Shade: s, Near: near}
}

func TestP5_6Near(t *testing.T) {
	r := rand.New(rand.NewSource(57))
	for range 2000 {
		l, w := lot(r.Intn(3)-1, someShade(r)), want(2000*r.Intn(2), someShade(r), 0)
		n, _ := dye.Differ(l.Shade, w.Shade)
		for _, near := range []int{math.MinInt, -1, 0, n - 1, n, n + 1, 100, math.MaxInt} {
			w.Near = near
			if ok := dye.Near(l, w); ok != (n <= near) {
				t.Fatal(l, w, n, ok)
			}
		}
	}
	for _, s := range badShades() {
		if dye.Near(lot(1, s), want(1, black, 100)) || dye.Near(lot(1, black), want(1, s, 100)) || dye.Near(lot(1, s), want(1, s, 100)) || dye.Near(lot(1, s), want(1, s, math.MaxInt)) {
			t.Error(s)
		}
	}
}

type badLots struct {
	lots  []api.Lot
	wants []api.Want
	e     api.Errno
}

func allBadLots() []badLots {
	okLots, okWants := []api.Lot{lot(5, black)}, []api.Want{want(5, black, 3)}
	list := []badLots{
		{make([]api.Lot, 7), nil, api.ErrLarge}, {nil, make([]api.Want, 7), api.ErrLarge}, {[]api.Lot{{}}, make([]api.Want, 7), api.ErrLarge},
		{[]api.Lot{lot(-1, black)}, okWants, api.ErrArg}, {[]api.Lot{lot(1, black), lot(1001, black)}, nil, api.ErrArg}, {[]api.Lot{lot(math.MinInt, black)}, okWants, api.ErrArg},
		{okLots, []api.Want{want(-1, black, 0)}, api.ErrArg}, {okLots, []api.Want{want(1, black, 0), want(1001, black, 0)}, api.ErrArg}, {nil, []api.Want{want(math.MaxInt, black, 0)}, api.ErrArg},
		{okLots, []api.Want{want(1, black, -1)}, api.ErrArg}, {okLots, []api.Want{want(1, black, 101)}, api.ErrArg}, {okLots, []api.Want{want(1, black, math.MaxInt)}, api.ErrArg},
	}
	for _, s := range badShades() {
		list = append(list, badLots{[]api.Lot{lot(1, s)}, okWants, api.ErrArg}, badLots{okLots, []api.Want{want(1, s, 0)}, api.ErrArg})
	}
	return list
}

func TestP5_6Validate(t *testing.T) {
	for i, x := range allBadLots() {
		if e := dye.Validate(x.lots, x.wants); e != x.e {
			t.Errorf("%d: %v, want %v", i, e, x.e)
		}
		n, e := dye.Check(x.lots, x.wants, []api.Gift{{Want: -1}})
		if n != 0 || e != x.e {
			t.Errorf("%d: Check: %d, %v", i, n, e)
		}
		gifts, n, e := dye.Best(x.lots, x.wants)
		if len(gifts) != 0 || n != 0 || e != x.e {
			t.Errorf("%d: Best: %v, %d, %v", i, gifts, n, e)
		}
		n, e = dye.Bound(x.lots, x.wants, []int{-1})
		if n != 0 || e != x.e {
			t.Errorf("%d: Bound: %d, %v", i, n, e)
		}
		set, e := dye.Lack(x.lots, x.wants)
		if len(set) != 0 || e != x.e {
			t.Errorf("%d: Lack: %v, %v", i, set, e)
		}
	}
	if e := dye.Validate(nil, nil); e != api.OK {
		t.Error(e)
	}
	if e := dye.Validate(slices.Repeat([]api.Lot{lot(1000, fair)}, 6), slices.Repeat([]api.Want{want(1000, fair, 100)}, 6)); e != api.OK {
		t.Error(e)
	}
	if e := dye.Validate([]api.Lot{lot(0, fair)}, []api.Want{want(0, fair, 0)}); e != api.OK {
		t.Error(e)
	}
}

func TestP5_6Check(t *testing.T) {
	lots := []api.Lot{lot(60, black), lot(1000, fair)}
	wants := []api.Want{want(50, black, 0), want(40, shade(1, 1, 0), 1), want(1000, fair, 0)}
	g := func(want, lot, weight int) api.Gift { return api.Gift{Want: want, Lot: lot, Weight: weight} }
	for i, x := range []struct {
		gifts []api.Gift
		want  int
		e     api.Errno
	}{
		{nil, 0, api.OK}, {[]api.Gift{g(0, 0, 50), g(1, 0, 10)}, 60, api.OK}, {[]api.Gift{g(0, 0, 20), g(0, 0, 30), g(2, 1, 1000)}, 1050, api.OK},
		{[]api.Gift{g(-1, 0, 1)}, 0, api.ErrNone}, {[]api.Gift{g(3, 0, 1)}, 0, api.ErrNone}, {[]api.Gift{g(0, -1, 1)}, 0, api.ErrNone}, {[]api.Gift{g(0, 2, 0)}, 0, api.ErrNone}, {[]api.Gift{g(math.MinInt, math.MaxInt, 0)}, 0, api.ErrNone},
		{[]api.Gift{g(0, 0, 0)}, 0, api.ErrArg}, {[]api.Gift{g(0, 1, 0)}, 0, api.ErrArg}, {[]api.Gift{g(2, 1, 1001)}, 0, api.ErrArg}, {[]api.Gift{g(0, 0, -5)}, 0, api.ErrArg}, {[]api.Gift{g(0, 0, math.MaxInt)}, 0, api.ErrArg},
		{[]api.Gift{g(0, 1, 1)}, 0, api.ErrFit}, {[]api.Gift{g(2, 0, 999)}, 0, api.ErrFit}, {[]api.Gift{g(0, 0, 51)}, 0, api.ErrShort}, {[]api.Gift{g(0, 0, 26), g(0, 0, 25)}, 0, api.ErrShort},
		{[]api.Gift{g(0, 0, 40), g(1, 0, 21)}, 0, api.ErrShort}, {[]api.Gift{g(0, 0, 40), g(1, 0, 20)}, 60, api.OK}, {[]api.Gift{g(2, 1, 1000), g(2, 1, 1)}, 0, api.ErrShort},
		// One by one, and what is short comes last.
		{[]api.Gift{g(0, 0, 900), g(0, 1, 1), g(9, 0, 1)}, 0, api.ErrFit}, {[]api.Gift{g(0, 0, 0), g(9, 9, 1)}, 0, api.ErrArg}, {[]api.Gift{g(9, 9, 1), g(0, 0, 0)}, 0, api.ErrNone}, {[]api.Gift{g(0, 0, 900), g(0, 0, 0)}, 0, api.ErrArg},
	} {
		if n, e := dye.Check(lots, wants, x.gifts); n != x.want || e != x.e {
			t.Errorf("%d: %d, %v", i, n, e)
		}
	}
}

// bound follows the words of P5.7.
func bound(lots []api.Lot, wants []api.Want, set []int) int {
	sum := 0
	for i, w := range wants {
		if !slices.Contains(set, i) {
			sum += w.Weight
		}
	}
	for _, l := range lots {
		if slices.ContainsFunc(set, func(i int) bool { return dye.Near(l, wants[i]) }) {
			sum += l.Weight
		}
	}
	return sum
}

func allSets(n int) [][]int {
	sets := [][]int{nil}
	for i := range n {
		for _, s := range sets[:len(sets):len(sets)] {
			sets = append(sets, append(slices.Clone(s), i))
		}
	}
	return sets
}

func TestP5_7(t *testing.T) {
	r := rand.New(rand.NewSource(58))
	short := 0
	for range 3000 {
		var lots []api.Lot
		var wants []api.Want
		most := []int{3, 10, 1000}[r.Intn(3)]
		for range r.Intn(7) {
			lots = append(lots, lot(r.Intn(most+1), someShade(r)))
		}
		for range r.Intn(7) {
			wants = append(wants, want(r.Intn(most+1), someShade(r), r.Intn(14)))
		}
		before := show(lots) + show(wants)
		least := math.MaxInt
		for _, set := range allSets(len(wants)) {
			n := bound(lots, wants, set)
			least = min(least, n)
			if got, e := dye.Bound(lots, wants, set); got != n || e != api.OK {
				t.Fatal(lots, wants, set, got, n, e)
			}
		}
		gifts, sum, e := dye.Best(lots, wants)
		if e != api.OK || sum != least {
			t.Fatal(lots, wants, gifts, sum, least, e)
		}
		if n, e := dye.Check(lots, wants, gifts); n != sum || e != api.OK {
			t.Fatal(lots, wants, gifts, n, sum, e)
		}
		set, e := dye.Lack(lots, wants)
		if e != api.OK || bound(lots, wants, set) != sum {
			t.Fatal(lots, wants, set, e)
		}
		for i, w := range set {
			if w < 0 || w >= len(wants) || i > 0 && w <= set[i-1] {
				t.Fatal("no set", set)
			}
		}
		gifts2, _, _ := dye.Best(lots, wants)
		set2, _ := dye.Lack(lots, wants)
		if !slices.Equal(gifts, gifts2) || !slices.Equal(set, set2) {
			t.Fatal("equal calls differ")
		}
		if show(lots)+show(wants) != before {
			t.Fatal("an argument was changed")
		}
		if len(set) > 0 {
			short++
		}
	}
	if short < 100 {
		t.Error("few lacked anything:", short)
	}
}

// TestP5_7Chains has wants that are served only if several others take another
// lot.
func TestP5_7Chains(t *testing.T) {
	near := func(a, b int) int { return 3 * (b - a) }
	lots := []api.Lot{lot(10, shade(2, 0, 0)), lot(10, shade(4, 0, 0)), lot(10, shade(6, 0, 0)), lot(10, shade(8, 0, 0))}
	wants := []api.Want{
		want(10, shade(3, 0, 0), near(3, 4)), want(10, shade(5, 0, 0), near(5, 6)), want(10, shade(7, 0, 0), near(7, 8)), want(10, shade(2, 0, 0), 0),
	}
	for range 24 {
		gifts, sum, e := dye.Best(lots, wants)
		if n, e2 := dye.Check(lots, wants, gifts); sum != 40 || e != api.OK || n != 40 || e2 != api.OK {
			t.Error(lots, wants, gifts, sum, e, n, e2)
		}
		wants[0], wants[1], wants[2], wants[3] = wants[3], wants[0], wants[1], wants[2]
		lots[0], lots[1], lots[2] = lots[2], lots[0], lots[1]
	}
}

func TestP5_7Example(t *testing.T) {
	lots := []api.Lot{lot(60, black)}
	wants := []api.Want{want(50, black, 0), want(40, black, 2)}
	if _, sum, e := dye.Best(lots, wants); sum != 60 || e != api.OK {
		t.Error(sum, e)
	}
	if n, e := dye.Bound(lots, wants, []int{0, 1}); n != 60 || e != api.OK {
		t.Error(n, e)
	}
	for _, set := range [][]int{{-1}, {2}, {0, 0}, {1, 0}, {0, 1, 2}, {0, 1, 1}, {math.MinInt}, {math.MaxInt}} {
		if n, e := dye.Bound(lots, wants, set); n != 0 || e != api.ErrArg {
			t.Error(set, n, e)
		}
	}
}
