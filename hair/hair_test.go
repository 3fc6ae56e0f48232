package hair_test

import (
	"math"
	"math/rand"
	"slices"
	"strconv"
	"strings"
	"testing"

	"wigmaker/api"
	"wigmaker/hair"
)

// strand is one hair: the tests follow bundles hair by hair.
type strand struct {
	length int
	wrong  bool
}

// strands lists the hairs of a bundle, the longest first, of equally long ones
// those that lie right.
func strands(b api.Bundle) []strand {
	var list []strand
	for length := api.MaxLong; length >= 1; length-- {
		for _, side := range []struct {
			numbers []int
			wrong   bool
		}{{b.Right, false}, {b.Wrong, true}} {
			if length <= len(side.numbers) {
				for range side.numbers[length-1] {
					list = append(list, strand{length, side.wrong})
				}
			}
		}
	}
	return list
}

// tie returns the trimmed bundle of some hairs.
func tie(list []strand) api.Bundle {
	var b api.Bundle
	for _, s := range list {
		side := &b.Right
		if s.wrong {
			side = &b.Wrong
		}
		for len(*side) < s.length {
			*side = append(*side, 0)
		}
		(*side)[s.length-1]++
	}
	return b
}

func same(a, b api.Bundle) bool {
	return slices.Equal(a.Right, b.Right) && slices.Equal(a.Wrong, b.Wrong)
}

func empty(b api.Bundle) bool {
	return len(b.Right) == 0 && len(b.Wrong) == 0
}

func clone(b api.Bundle) api.Bundle {
	return api.Bundle{Right: slices.Clone(b.Right), Wrong: slices.Clone(b.Wrong)}
}

func numbers(r *rand.Rand) []int {
	list := make([]int, r.Intn(7))
	if r.Intn(8) == 0 {
		list = make([]int, api.MaxLong)
	}
	for i := range list {
		list[i] = max(0, r.Intn(7)-3)
	}
	return list
}

func someBundle(r *rand.Rand) api.Bundle {
	return api.Bundle{Right: numbers(r), Wrong: numbers(r)}
}

// at returns a list with one number, n hairs of a length.
func at(length, n int) []int {
	list := make([]int, length)
	list[length-1] = n
	return list
}

// bad has bundles with the error that Validate has for them.
var bad = []struct {
	b    api.Bundle
	want api.Errno
}{
	{api.Bundle{Right: make([]int, 25)}, api.ErrLarge},
	{api.Bundle{Wrong: make([]int, 25)}, api.ErrLarge},
	{api.Bundle{Right: []int{-1}, Wrong: make([]int, 25)}, api.ErrLarge},
	{api.Bundle{Right: []int{0, -1}}, api.ErrArg},
	{api.Bundle{Wrong: []int{-1}}, api.ErrArg},
	{api.Bundle{Wrong: []int{math.MinInt}}, api.ErrArg},
	{api.Bundle{Right: []int{1000001}, Wrong: []int{0, 0, -1}}, api.ErrArg},
	{api.Bundle{Right: []int{1000001, -1}}, api.ErrArg},
	{api.Bundle{Right: []int{0, 1000001}}, api.ErrLarge},
	{api.Bundle{Right: []int{1000001, 3}, Wrong: []int{1}}, api.ErrLarge},
	{api.Bundle{Wrong: []int{math.MaxInt}}, api.ErrLarge},
}

func TestP1_1Validate(t *testing.T) {
	for i, x := range bad {
		if e := hair.Validate(x.b); e != x.want {
			t.Errorf("%d: %v, want %v", i, e, x.want)
		}
	}
	for i, b := range []api.Bundle{
		{},
		{Right: []int{}, Wrong: make([]int, 24)},
		{Right: at(24, 1000000), Wrong: at(24, 1000000)},
		{Right: []int{0, 0}},
	} {
		if e := hair.Validate(b); e != api.OK {
			t.Errorf("%d: %v", i, e)
		}
	}
}

func TestP1_1Make(t *testing.T) {
	for i, x := range []struct {
		right, want []int
		e           api.Errno
	}{
		{nil, nil, api.OK},
		{[]int{0, 0}, nil, api.OK},
		{[]int{0, 3, 0, 1, 0, 0}, []int{0, 3, 0, 1}, api.OK},
		{at(24, 1000000), at(24, 1000000), api.OK},
		{make([]int, 25), nil, api.ErrLarge},
		{[]int{2, -1}, nil, api.ErrArg},
		{[]int{1000001, -1}, nil, api.ErrArg},
		{[]int{1000001}, nil, api.ErrLarge},
	} {
		b, e := hair.Make(x.right...)
		if e != x.e || !same(b, api.Bundle{Right: x.want}) {
			t.Errorf("%d: %v, %v", i, b, e)
		}
	}
	list := []int{1, 2}
	b, _ := hair.Make(list...)
	b.Right[0] = 9
	if list[0] != 1 {
		t.Error("Make shares the memory of its argument")
	}
}

// TestP1_1Common checks that every function has the errors of Validate first,
// and only zero values with them.
func TestP1_1Common(t *testing.T) {
	for i, x := range bad {
		for name, got := range everyCall(x.b, api.Bundle{}) {
			if got.e != x.want || !got.zero {
				t.Errorf("%d: %s: %v, zero values: %v", i, name, got.e, got.zero)
			}
		}
		for _, y := range bad {
			for name, got := range pairCalls(x.b, y.b) {
				if got.e != x.want || !got.zero {
					t.Errorf("%d: %s of two: %v, zero values: %v", i, name, got.e, got.zero)
				}
			}
		}
		for name, got := range pairCalls(api.Bundle{}, x.b) {
			if got.e != x.want || !got.zero {
				t.Errorf("%d: %s, second: %v, zero values: %v", i, name, got.e, got.zero)
			}
		}
	}
}

// outcome is the error of a call, and whether all else were zero values.
type outcome struct {
	e    api.Errno
	zero bool
}

func pairCalls(a, b api.Bundle) map[string]outcome {
	all := map[string]outcome{}
	ok, e := hair.Same(a, b)
	all["Same"] = outcome{e, !ok}
	c, e := hair.Mix(a, b)
	all["Mix"] = outcome{e, empty(c)}
	n, e := hair.Compare(a, b)
	all["Compare"] = outcome{e, n == 0}
	c, n, e = hair.Cut(a, b)
	all["Cut"] = outcome{e, empty(c) && n == 0}
	n, ok, e = hair.Lack(a, b)
	all["Lack"] = outcome{e, n == 0 && !ok}
	return all
}

// everyCall calls with arguments that are wrong as well, where there are any.
func everyCall(b, other api.Bundle) map[string]outcome {
	all := pairCalls(b, other)
	c, e := hair.Trim(b)
	all["Trim"] = outcome{e, empty(c)}
	n, e := hair.Count(b)
	all["Count"] = outcome{e, n == 0}
	n, e = hair.Inches(b)
	all["Inches"] = outcome{e, n == 0}
	n, e = hair.Above(b, 0)
	all["Above"] = outcome{e, n == 0}
	c, d, e := hair.Draw(b, -1)
	all["Draw"] = outcome{e, empty(c) && empty(d)}
	c, d, e = hair.Hackle(b, 0)
	all["Hackle"] = outcome{e, empty(c) && empty(d)}
	c, e = hair.Turn(b)
	all["Turn"] = outcome{e, empty(c)}
	c, e = hair.Snap(b, 1, 1, -1)
	all["Snap"] = outcome{e, empty(c)}
	q, e := hair.Share(b, 1)
	all["Share"] = outcome{e, q == api.Rat{}}
	q, e = hair.Mean(b)
	all["Mean"] = outcome{e, q == api.Rat{}}
	q, e = hair.Mats(b)
	all["Mats"] = outcome{e, q == api.Rat{}}
	l, e := hair.Handfuls(b, 0)
	all["Handfuls"] = outcome{e, len(l) == 0}
	n, e = hair.Weight(b, -1)
	all["Weight"] = outcome{e, n == 0}
	s, e := hair.Format(b)
	all["Format"] = outcome{e, s == ""}
	return all
}

// TestP1_1LargeResults has the functions whose result can have a number above
// MaxHairs.
func TestP1_1LargeResults(t *testing.T) {
	full := api.Bundle{Right: at(5, 1000000), Wrong: at(5, 1)}
	if b, e := hair.Mix(full, full); e != api.ErrLarge || !empty(b) {
		t.Error(b, e)
	}
	if b, e := hair.Mix(api.Bundle{Wrong: at(24, 999999)}, api.Bundle{Wrong: at(24, 1)}); e != api.OK || !same(b, api.Bundle{Wrong: at(24, 1000000)}) {
		t.Error(b, e)
	}
	if b, e := hair.Mix(api.Bundle{Wrong: at(24, 999999)}, api.Bundle{Wrong: at(24, 2)}); e != api.ErrLarge || !empty(b) {
		t.Error(b, e)
	}
	if b, e := hair.Turn(full); e != api.ErrLarge || !empty(b) {
		t.Error(b, e)
	}
	if b, e := hair.Turn(api.Bundle{Right: at(5, 999999), Wrong: at(5, 1)}); e != api.OK || !same(b, api.Bundle{Right: at(5, 1000000)}) {
		t.Error(b, e)
	}
	half := api.Bundle{Right: at(4, 500000)}
	if b, e := hair.Snap(half, 4, 2, 500000); e != api.OK || !same(b, api.Bundle{Right: at(2, 1000000)}) {
		t.Error(b, e)
	}
	half.Right[1] = 1
	if b, e := hair.Snap(half, 4, 2, 500000); e != api.ErrLarge || !empty(b) {
		t.Error(b, e)
	}
	if b, e := hair.Snap(half, 4, 2, 500001); e != api.ErrShort || !empty(b) {
		t.Error(b, e)
	}
}

func TestP1_2(t *testing.T) {
	r := rand.New(rand.NewSource(12))
	for range 2000 {
		a, b := someBundle(r), someBundle(r)
		if r.Intn(3) == 0 {
			b = clone(a)
			b.Right = append(b.Right, make([]int, min(2, 24-len(b.Right)))...)
		}
		x, y := strands(a), strands(b)
		if c, e := hair.Trim(a); e != api.OK || !same(c, tie(x)) {
			t.Fatal(a, c, e)
		}
		if ok, e := hair.Same(a, b); e != api.OK || ok != slices.Equal(x, y) {
			t.Fatal(a, b, ok, e)
		}
		if n, e := hair.Count(a); e != api.OK || n != len(x) {
			t.Fatal(a, n, e)
		}
		inches := 0
		for _, s := range x {
			inches += s.length
		}
		if n, e := hair.Inches(a); e != api.OK || n != inches {
			t.Fatal(a, n, e)
		}
		for length := -1; length <= 26; length++ {
			above := 0
			for _, s := range x {
				if s.length >= length {
					above++
				}
			}
			if n, e := hair.Above(a, length); e != api.OK || n != above {
				t.Fatal(a, length, n, e)
			}
		}
		if c, e := hair.Mix(a, b); e != api.OK || !same(c, tie(slices.Concat(x, y))) {
			t.Fatal(a, b, c, e)
		}
	}
	b := api.Bundle{Right: []int{2}, Wrong: at(24, 3)}
	if n, e := hair.Above(b, math.MaxInt); n != 0 || e != api.OK {
		t.Error(n, e)
	}
	if n, e := hair.Above(b, math.MinInt); n != 5 || e != api.OK {
		t.Error(n, e)
	}
	if ok, e := hair.Same(api.Bundle{Right: []int{1}}, api.Bundle{Wrong: []int{1}}); ok || e != api.OK {
		t.Error(ok, e)
	}
	full := make([]int, 24)
	for i := range full {
		full[i] = 1000000
	}
	if n, e := hair.Inches(api.Bundle{Right: full, Wrong: full}); n != 600000000 || e != api.OK {
		t.Error(n, e)
	}
}

func TestP1_3Draw(t *testing.T) {
	r := rand.New(rand.NewSource(13))
	for range 2000 {
		b := someBundle(r)
		x := strands(b)
		n := r.Intn(len(x) + 1)
		drawn, rest, e := hair.Draw(b, n)
		if e != api.OK || !same(drawn, tie(x[:n])) || !same(rest, tie(x[n:])) {
			t.Fatal(b, n, drawn, rest, e)
		}
		for _, n := range []int{-1, math.MinInt} {
			if d, c, e := hair.Draw(b, n); e != api.ErrArg || !empty(d) || !empty(c) {
				t.Fatal(b, n, d, c, e)
			}
		}
		for _, n := range []int{len(x) + 1, math.MaxInt} {
			if d, c, e := hair.Draw(b, n); e != api.ErrShort || !empty(d) || !empty(c) {
				t.Fatal(b, n, d, c, e)
			}
		}
	}
	b := api.Bundle{Right: []int{0, 0, 0, 0, 0, 0, 4, 0, 2}}
	if drawn, _, _ := hair.Draw(b, 3); !same(drawn, api.Bundle{Right: []int{0, 0, 0, 0, 0, 0, 1, 0, 2}}) {
		t.Error(drawn)
	}
}

func TestP1_3HackleTurn(t *testing.T) {
	r := rand.New(rand.NewSource(14))
	for range 1000 {
		b := someBundle(r)
		for least := 1; least <= 25; least++ {
			var long, short []strand
			for _, s := range strands(b) {
				if s.length >= least {
					long = append(long, s)
				} else {
					short = append(short, s)
				}
			}
			kept, combings, e := hair.Hackle(b, least)
			if e != api.OK || !same(kept, tie(long)) || !same(combings, tie(short)) {
				t.Fatal(b, least, kept, combings, e)
			}
		}
		for _, least := range []int{0, 26, math.MinInt, math.MaxInt} {
			if k, c, e := hair.Hackle(b, least); e != api.ErrArg || !empty(k) || !empty(c) {
				t.Fatal(b, least, k, c, e)
			}
		}
		turned := strands(b)
		for i := range turned {
			turned[i].wrong = false
		}
		if c, e := hair.Turn(b); e != api.OK || !same(c, tie(turned)) {
			t.Fatal(b, c, e)
		}
	}
}

func TestP1_4Snap(t *testing.T) {
	r := rand.New(rand.NewSource(15))
	for range 3000 {
		b := someBundle(r)
		length := 2 + r.Intn(7)
		if r.Intn(4) == 0 {
			length = 24
		}
		at := 1 + r.Intn(length-1)
		n := r.Intn(4)
		left := n
		var list []strand
		for _, s := range strands(b) {
			if s.length == length && left > 0 {
				list = append(list, strand{at, s.wrong}, strand{length - at, s.wrong})
				left--
			} else {
				list = append(list, s)
			}
		}
		c, e := hair.Snap(b, length, at, n)
		if left > 0 {
			if e != api.ErrShort || !empty(c) {
				t.Fatal(b, length, at, n, c, e)
			}
		} else if e != api.OK || !same(c, tie(list)) {
			t.Fatal(b, length, at, n, c, e)
		}
	}
}

func TestP1_4SnapErrors(t *testing.T) {
	b := api.Bundle{Right: at(24, 1)}
	for _, x := range [][3]int{
		{1, 1, 0}, {0, 0, 0}, {25, 3, 0}, {24, 0, 1}, {24, 24, 1}, {24, 25, 1}, {24, -1, 1}, {24, 5, -1},
		{1, 0, 9}, {25, 1, 9}, {9, 9, 9}, {math.MinInt, 1, 1}, {24, math.MinInt, 1}, {24, math.MaxInt, 1}, {24, 1, math.MinInt},
	} {
		if c, e := hair.Snap(b, x[0], x[1], x[2]); e != api.ErrArg || !empty(c) {
			t.Error(x, c, e)
		}
	}
	for _, x := range [][3]int{{24, 23, 2}, {2, 1, 1}, {24, 1, math.MaxInt}} {
		if c, e := hair.Snap(b, x[0], x[1], x[2]); e != api.ErrShort || !empty(c) {
			t.Error(x, c, e)
		}
	}
	if c, e := hair.Snap(b, 24, 23, 1); e != api.OK || !same(c, tie([]strand{{23, false}, {1, false}})) {
		t.Error(c, e)
	}
	if c, e := hair.Snap(b, 2, 1, 0); e != api.OK || !same(c, b) {
		t.Error(c, e)
	}
}

// equals reports whether a valid fraction is num/den.
func equals(q api.Rat, num, den int) bool {
	for d := 2; d <= q.Den; d++ {
		if q.Den%d == 0 && q.Num%d == 0 {
			return false
		}
	}
	return q.Den > 0 && q.Num*den == num*q.Den
}

func TestP1_5(t *testing.T) {
	r := rand.New(rand.NewSource(16))
	for range 1000 {
		b := someBundle(r)
		list := strands(b)
		if len(list) == 0 {
			continue
		}
		inches, wrong := 0, 0
		for _, s := range list {
			inches += s.length
			if s.wrong {
				wrong++
			}
		}
		for _, length := range []int{math.MinInt, 0, 1, 2, 3, 4, 24, 25, math.MaxInt} {
			above, _ := hair.Above(b, length)
			if q, e := hair.Share(b, length); e != api.OK || !equals(q, above, len(list)) {
				t.Fatal(b, length, q, e)
			}
		}
		if q, e := hair.Mean(b); e != api.OK || !equals(q, inches, len(list)) {
			t.Fatal(b, q, e)
		}
		if q, e := hair.Mats(b); e != api.OK || !equals(q, wrong, len(list)) {
			t.Fatal(b, q, e)
		}
	}
	if q, _ := hair.Share(api.Bundle{Right: []int{1}}, 2); q != (api.Rat{Num: 0, Den: 1}) {
		t.Error(q)
	}
	for _, b := range []api.Bundle{{}, {Right: []int{0, 0}, Wrong: []int{0}}} {
		if q, e := hair.Share(b, 1); e != api.ErrNone || q != (api.Rat{}) {
			t.Error(q, e)
		}
		if q, e := hair.Mean(b); e != api.ErrNone || q != (api.Rat{}) {
			t.Error(q, e)
		}
		if q, e := hair.Mats(b); e != api.ErrNone || q != (api.Rat{}) {
			t.Error(q, e)
		}
	}
}

func TestP1_6Compare(t *testing.T) {
	r := rand.New(rand.NewSource(17))
	for range 4000 {
		a := api.Bundle{Right: []int{r.Intn(3), r.Intn(3)}, Wrong: []int{r.Intn(2), 0, r.Intn(2)}}
		b := api.Bundle{Right: []int{r.Intn(3), r.Intn(3)}, Wrong: []int{r.Intn(2), 0, r.Intn(2)}}
		if r.Intn(2) == 0 {
			b = api.Bundle{Wrong: []int{3 * (a.Right[0] + a.Wrong[0]), 3 * a.Right[1], 3 * a.Wrong[2]}}
		}
		if r.Intn(3) == 0 {
			a.Right, b.Right = append(a.Right, at(22, 1)...), append(b.Right[:len(b.Right):len(b.Right)], 0)
		}
		m, n := len(strands(a)), len(strands(b))
		if m == 0 || n == 0 {
			if c, e := hair.Compare(a, b); e != api.ErrNone || c != 0 {
				t.Fatal(a, b, c, e)
			}
			continue
		}
		more, less := 0, 0
		for length := range 26 {
			x, _ := hair.Above(a, length)
			y, _ := hair.Above(b, length)
			if x*n > y*m {
				more++
			} else if x*n < y*m {
				less++
			}
		}
		want := api.Alike
		switch {
		case more > 0 && less > 0:
			want = api.Neither
		case more > 0:
			want = api.First
		case less > 0:
			want = api.Second
		}
		if c, e := hair.Compare(a, b); e != api.OK || c != want {
			t.Fatal(a, b, c, e, want)
		}
	}
	threes := api.Bundle{Right: []int{0, 0, 1, 0, 0, 0, 0, 0, 1}}
	for i, x := range []struct {
		a, b api.Bundle
		want int
	}{
		{threes, api.Bundle{Right: at(6, 1)}, api.Neither},
		{api.Bundle{Right: at(24, 1)}, api.Bundle{Wrong: at(23, 9)}, api.First},
		{api.Bundle{Right: at(23, 1)}, api.Bundle{Wrong: at(24, 9)}, api.Second},
		{api.Bundle{Right: at(1, 1)}, api.Bundle{Right: at(2, 1)}, api.Second},
		{api.Bundle{Right: at(24, 1000000)}, api.Bundle{Wrong: at(24, 1)}, api.Alike},
	} {
		if c, e := hair.Compare(x.a, x.b); e != api.OK || c != x.want {
			t.Errorf("%d: %d, %v", i, c, e)
		}
	}
}

func TestP1_7Handfuls(t *testing.T) {
	r := rand.New(rand.NewSource(18))
	for range 1000 {
		b := someBundle(r)
		list := strands(b)
		n := 1 + r.Intn(9)
		var want []api.Bundle
		for len(list) > 0 {
			k := min(n, len(list))
			want = append(want, tie(list[:k]))
			list = list[k:]
		}
		if got, e := hair.Handfuls(b, n); e != api.OK || !slices.EqualFunc(got, want, same) {
			t.Fatal(b, n, got, e)
		}
	}
	for i, x := range []struct {
		hairs, n, want int
		e              api.Errno
	}{
		{200, 1, 200, api.OK}, {201, 1, 0, api.ErrLarge}, {600, 3, 200, api.OK}, {601, 3, 0, api.ErrLarge}, {599, 3, 200, api.OK},
		{0, 1, 0, api.OK}, {0, 0, 0, api.ErrArg}, {1000, 0, 0, api.ErrArg}, {1000, -1, 0, api.ErrArg}, {5, math.MinInt, 0, api.ErrArg},
		{1000000, 5000, 200, api.OK}, {1000000, 4999, 0, api.ErrLarge}, {7, math.MaxInt, 1, api.OK},
	} {
		got, e := hair.Handfuls(api.Bundle{Wrong: []int{x.hairs}}, x.n)
		if e != x.e || len(got) != x.want {
			t.Errorf("%d: %d handfuls, %v", i, len(got), e)
		}
	}
}

// cutOneByOne follows the words of P1.8 for each wanted hair.
func cutOneByOne(have, want []strand) (rest []strand, lost int, short bool) {
	rest = slices.Clone(have)
	for _, w := range want {
		best := -1
		for i, s := range rest {
			if s.length < w.length {
				continue
			}
			if best < 0 || s.length < rest[best].length || s.length == rest[best].length && rest[best].wrong && !s.wrong {
				best = i
			}
		}
		if best < 0 {
			return nil, 0, true
		}
		lost += rest[best].length - w.length
		rest = slices.Delete(rest, best, best+1)
	}
	return rest, lost, false
}

func TestP1_8CutLack(t *testing.T) {
	r := rand.New(rand.NewSource(19))
	for range 4000 {
		have, want := someBundle(r), api.Bundle{Right: numbers(r)}
		if r.Intn(2) == 0 {
			want = api.Bundle{Wrong: []int{r.Intn(2), r.Intn(2), r.Intn(2)}, Right: []int{r.Intn(3)}}
		}
		rest, lost, short := cutOneByOne(strands(have), strands(want))
		left, off, e := hair.Cut(have, want)
		if short && (e != api.ErrShort || !empty(left) || off != 0) {
			t.Fatal(have, want, left, off, e)
		}
		if !short && (e != api.OK || off != lost || !same(left, tie(rest))) {
			t.Fatal(have, want, left, off, e)
		}
		lack := 0
		for length := range 25 {
			x, _ := hair.Above(have, length)
			y, _ := hair.Above(want, length)
			if length > 0 && y > x {
				lack = length
			}
		}
		if n, ok, e := hair.Lack(have, want); e != api.OK || n != lack || ok != (lack > 0) || ok != short {
			t.Fatal(have, want, n, ok, e)
		}
	}
	if rest, lost, e := hair.Cut(api.Bundle{Right: at(24, 1000000)}, api.Bundle{Wrong: []int{999999}}); e != api.OK || lost != 23*999999 || !same(rest, api.Bundle{Right: at(24, 1)}) {
		t.Error(rest, lost, e)
	}
	if n, ok, e := hair.Lack(api.Bundle{}, api.Bundle{Wrong: at(24, 1)}); n != 24 || !ok || e != api.OK {
		t.Error(n, ok, e)
	}
}

func TestP1_9Weight(t *testing.T) {
	for inches := range 230 {
		for damp := 0; damp <= 30; damp++ {
			// The nearest n is the one with 200n within 100 of twice the
			// product; at a distance of 100 it is even.
			twice := 2 * inches * (100 + damp)
			n, e := hair.Weight(api.Bundle{Wrong: []int{inches}}, damp)
			far := max(200*n-twice, twice-200*n)
			if e != api.OK || far > 100 || far == 100 && n%2 != 0 {
				t.Fatal(inches, damp, n, e)
			}
		}
	}
	if n, e := hair.Weight(api.Bundle{Right: at(24, 1000000), Wrong: at(24, 1000000)}, 30); n != 62400000 || e != api.OK {
		t.Error(n, e)
	}
	for _, damp := range []int{-1, 31, math.MinInt, math.MaxInt} {
		if n, e := hair.Weight(api.Bundle{Right: []int{5}}, damp); n != 0 || e != api.ErrArg {
			t.Error(damp, n, e)
		}
	}
}

func TestP1_10Format(t *testing.T) {
	for i, x := range []struct {
		b    api.Bundle
		want string
	}{
		{api.Bundle{}, "hair wrong"},
		{api.Bundle{Right: []int{0}, Wrong: []int{0, 0}}, "hair wrong"},
		{api.Bundle{Right: []int{1, 0, 12, 0}}, "hair 1 0 12 wrong"},
		{api.Bundle{Wrong: []int{0, 1000000}}, "hair wrong 0 1000000"},
		{api.Bundle{Right: []int{3}, Wrong: []int{4, 5, 0}}, "hair 3 wrong 4 5"},
	} {
		if s, e := hair.Format(x.b); e != api.OK || s != x.want {
			t.Errorf("%d: %q, %v", i, s, e)
		}
		trimmed, _ := hair.Trim(x.b)
		if b, e := hair.Parse(x.want); e != api.OK || !same(b, trimmed) {
			t.Errorf("%d: %v, %v", i, b, e)
		}
	}
}

func TestP1_10Parse(t *testing.T) {
	for _, text := range []string{
		"", " ", "hair", "wrong", "hair ", "hair  wrong", "hair wrong ", " hair wrong", "hair wrong\n", "hair\twrong", "hair\nwrong",
		"hair 0 wrong", "hair wrong 0", "hair 1 0 wrong", "hair 01 wrong", "hair +1 wrong", "hair -1 wrong", "hair -0 wrong", "hair 1x wrong", "hair 1.0 wrong",
		"hair 1 1", "hair wrong wrong", "hair wrong 1 wrong", "hair wrong 1 hair", "Hair wrong", "hair Wrong", "hairwrong", "hair 1,2 wrong", "wrong hair",
		"hair 1000001 wrong", "hair 99999999999999999999 wrong", "hair 1 wrong 1000001", "hair 1_0 wrong", "hair 0x1 wrong", "hair x 1 wrong",
		"hair " + strings.Repeat("0 ", 24) + "1 wrong", "hair wrong" + strings.Repeat(" 1", 25), "hair 1 wrong 1\x00", "hair ١ wrong",
	} {
		if b, e := hair.Parse(text); e != api.ErrSyntax || !empty(b) {
			t.Errorf("%q: %v, %v", text, b, e)
		}
	}
	long := "hair wrong" + strings.Repeat(" ", 3990)
	if b, e := hair.Parse(long); e != api.ErrSyntax || !empty(b) {
		t.Error(len(long), b, e)
	}
	if b, e := hair.Parse(long + " "); e != api.ErrLarge || !empty(b) {
		t.Error(b, e)
	}
	full := api.Bundle{}
	for i := range 24 {
		full.Right = append(full.Right, 1000000-i)
		full.Wrong = append(full.Wrong, i+1)
	}
	text, e := hair.Format(full)
	if e != api.OK || strings.Count(text, " ") != 49 {
		t.Fatal(text, e)
	}
	if b, e := hair.Parse(text); e != api.OK || !same(b, full) {
		t.Error(b, e)
	}
	if b, e := hair.Parse("hair " + strings.Repeat("0 ", 23) + strconv.Itoa(7) + " wrong"); e != api.OK || !same(b, api.Bundle{Right: at(24, 7)}) {
		t.Error(b, e)
	}
}

// TestMemory checks R5: arguments stay, and results share nothing with them or
// with each other.
func TestMemory(t *testing.T) {
	b := api.Bundle{Right: []int{1, 2, 3}, Wrong: []int{2, 1, 1}}
	other := api.Bundle{Right: []int{1}}
	keep, keepOther := clone(b), clone(other)
	var results []api.Bundle
	add := func(list ...api.Bundle) {
		for _, c := range list {
			for _, d := range results {
				if share(c.Right, d.Right) || share(c.Wrong, d.Wrong) || share(c.Right, d.Wrong) || share(c.Wrong, d.Right) {
					t.Error("results share memory")
				}
			}
			results = append(results, c)
		}
	}
	trimmed, _ := hair.Trim(b)
	mixed, _ := hair.Mix(b, api.Bundle{})
	drawn, rest, _ := hair.Draw(b, 4)
	kept, combings, _ := hair.Hackle(b, 1)
	turned, _ := hair.Turn(api.Bundle{Right: b.Right})
	snapped, _ := hair.Snap(b, 2, 1, 0)
	left, _, _ := hair.Cut(b, other)
	handfuls, _ := hair.Handfuls(b, 3)
	add(trimmed, mixed, drawn, rest, kept, combings, turned, snapped, left)
	add(handfuls...)
	hair.Compare(b, other)
	hair.Lack(other, b)
	hair.Format(b)
	for _, c := range results {
		for i := range c.Right {
			c.Right[i] = 99
		}
		for i := range c.Wrong {
			c.Wrong[i] = 99
		}
	}
	if !same(b, keep) || !same(other, keepOther) {
		t.Error("an argument was changed", b, other)
	}
}

func share(a, b []int) bool {
	return len(a) > 0 && len(b) > 0 && &a[0] == &b[0]
}
