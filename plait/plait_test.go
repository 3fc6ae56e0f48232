package plait_test

import (
	"math"
	"math/big"
	"math/rand"
	"strings"
	"testing"

	"wigmaker/api"
	"wigmaker/plait"
)

const letters = "aAbB"

func someWord(r *rand.Rand, most int) string {
	var b strings.Builder
	for range r.Intn(most + 1) {
		b.WriteByte(letters[r.Intn(4)])
	}
	return b.String()
}

// badWords are not words: the last one is too long.
var badWords = []string{"c", "ab c", " ", "a b", "aC", "1", "a\n", "\x00", "ä", "aаb", "\xff", "a!", "(a)", "ab\x00", "xab", strings.Repeat("a", 61), strings.Repeat("x", 61)}

var longest = strings.Repeat("aB", 30)

func TestP6_1Valid(t *testing.T) {
	for _, w := range []string{"", "a", "A", "b", "B", "abAB", longest, strings.Repeat("b", 60)} {
		if !plait.Valid(w) {
			t.Errorf("%q", w)
		}
	}
	for _, w := range badWords {
		if plait.Valid(w) {
			t.Errorf("%q", w)
		}
	}
}

// TestP6_1Common checks that every function refuses what is not a word.
func TestP6_1Common(t *testing.T) {
	for _, w := range badWords {
		check := func(name string, e api.Errno, zero bool) {
			if e != api.ErrArg || !zero {
				t.Errorf("%s(%q): %v, zero values: %v", name, w, e, zero)
			}
		}
		s, e := plait.Reduce(w)
		check("Reduce", e, s == "")
		s, e = plait.Join(w, longest)
		check("Join", e, s == "")
		s, e = plait.Join(longest, w)
		check("Join second", e, s == "")
		s, e = plait.Inverse(w)
		check("Inverse", e, s == "")
		s, e = plait.Mirror(w)
		check("Mirror", e, s == "")
		s, e = plait.Flip(w)
		check("Flip", e, s == "")
		s, e = plait.Power(w, 1)
		check("Power", e, s == "")
		s, e = plait.Power(w, 100)
		check("Power", e, s == "")
		s, e = plait.Power(w, 0)
		check("Power", e, s == "")
		ends, e := plait.Ends(w)
		check("Ends", e, ends == [3]int{})
		n, e := plait.Rings(w)
		check("Rings", e, n == 0)
		n, e = plait.Crossings(w)
		check("Crossings", e, n == 0)
		m, e := plait.Matrix(w)
		check("Matrix", e, m == [4]int{})
		n, s, e = plait.Normal(w)
		check("Normal", e, n == 0 && s == "")
		ok, e := plait.Same(w, w)
		check("Same", e, !ok)
		ok, e = plait.Same("a", w)
		check("Same second", e, !ok)
		ok, e = plait.Same(w, "a")
		check("Same first", e, !ok)
		ok, e = plait.IsTwist(w)
		check("IsTwist", e, !ok)
		over, under, e := plait.Shadow(w)
		check("Shadow", e, over == [3]int{} && under == [3]int{})
	}
}

// reduceAt leaves out one pair, at random, until there is none.
func reduceAt(r *rand.Rand, w string) string {
	for {
		var places []int
		for i := 0; i+2 <= len(w); i++ {
			switch w[i : i+2] {
			case "aA", "Aa", "bB", "Bb":
				places = append(places, i)
			}
		}
		if len(places) == 0 {
			return w
		}
		i := places[r.Intn(len(places))]
		w = w[:i] + w[i+2:]
	}
}

func TestP6_1Reduce(t *testing.T) {
	r := rand.New(rand.NewSource(61))
	for range 3000 {
		w := someWord(r, 60)
		if got, e := plait.Reduce(w); e != api.OK || got != reduceAt(r, w) {
			t.Fatal(w, got, e)
		}
	}
	for w, want := range map[string]string{"": "", "aA": "", "aabBAA": "", "abAB": "abAB", "abBa": "aa", "aba": "aba", "Aab": "b", "aB": "aB"} {
		if got, e := plait.Reduce(w); e != api.OK || got != want {
			t.Error(w, got, e)
		}
	}
}

func exchange(w, from, to string) string {
	return strings.Map(func(r rune) rune { return rune(to[strings.IndexRune(from, r)]) }, w)
}

func mirror(w string) string { return exchange(w, "aAbB", "AaBb") }
func flip(w string) string   { return exchange(w, "aAbB", "bBaA") }
func inverse(w string) string {
	back := ""
	for _, c := range mirror(w) {
		back = string(c) + back
	}
	return back
}

func TestP6_1Words(t *testing.T) {
	r := rand.New(rand.NewSource(62))
	for range 3000 {
		u, v := someWord(r, 60), someWord(r, 60)
		joined, e := plait.Join(u, v)
		if len(u)+len(v) > 60 {
			if joined != "" || e != api.ErrLarge {
				t.Fatal(u, v, joined, e)
			}
		} else if joined != u+v || e != api.OK {
			t.Fatal(u, v, joined, e)
		}
		if w, e := plait.Inverse(u); w != inverse(u) || e != api.OK {
			t.Fatal(u, w, e)
		}
		if w, e := plait.Mirror(u); w != mirror(u) || e != api.OK {
			t.Fatal(u, w, e)
		}
		if w, e := plait.Flip(u); w != flip(u) || e != api.OK {
			t.Fatal(u, w, e)
		}
		n := r.Intn(80) - 40
		want, e := strings.Repeat(u, max(n, -n)), api.OK
		if n < 0 {
			want = strings.Repeat(inverse(u), -n)
		}
		if len(want) > 60 {
			want, e = "", api.ErrLarge
		}
		if w, err := plait.Power(u, n); w != want || err != e {
			t.Fatal(u, n, w, err)
		}
	}
	for i, x := range []struct {
		w    string
		n    int
		want string
		e    api.Errno
	}{
		{"", math.MaxInt, "", api.OK}, {"", math.MinInt, "", api.OK}, {"a", math.MaxInt, "", api.ErrLarge}, {"a", math.MinInt, "", api.ErrLarge}, {"ab", math.MinInt / 2, "", api.ErrLarge}, {"ab", 1 << 62, "", api.ErrLarge},
		{"ab", 0, "", api.OK}, {"ab", -1, "BA", api.OK}, {"a", 60, strings.Repeat("a", 60), api.OK}, {"a", 61, "", api.ErrLarge}, {"b", -60, strings.Repeat("B", 60), api.OK}, {"b", -61, "", api.ErrLarge},
		{"ab", 30, strings.Repeat("ab", 30), api.OK}, {"ab", 31, "", api.ErrLarge}, {longest, 1, longest, api.OK}, {longest, 0, "", api.OK}, {longest, 2, "", api.ErrLarge}, {longest, -1, inverse(longest), api.OK},
	} {
		if w, e := plait.Power(x.w, x.n); w != x.want || e != x.e {
			t.Errorf("%d: %q, %v", i, w, e)
		}
	}
	if w, e := plait.Join(longest, ""); w != longest || e != api.OK {
		t.Error(w, e)
	}
	if w, e := plait.Join("aA", "Aa"); w != "aAAa" || e != api.OK {
		t.Error(w, e)
	}
}

// strands follows the strands of a word from place to place.
func strands(w string) (ends, over, under [3]int) {
	for strand := range 3 {
		at := strand
		for _, c := range w {
			left := strings.IndexRune("ab", c|32)
			small := c >= 'a'
			switch at {
			case left:
				at++
				if small {
					over[strand]++
				} else {
					under[strand]++
				}
			case left + 1:
				at--
				if small {
					under[strand]++
				} else {
					over[strand]++
				}
			}
		}
		ends[strand] = at
	}
	return ends, over, under
}

func TestP6_2(t *testing.T) {
	r := rand.New(rand.NewSource(63))
	for range 3000 {
		w := someWord(r, 60)
		ends, over, under := strands(w)
		if got, e := plait.Ends(w); got != ends || e != api.OK {
			t.Fatal(w, got, ends, e)
		}
		o, u, e := plait.Shadow(w)
		if o != over || u != under || e != api.OK {
			t.Fatal(w, o, u, over, under, e)
		}
		small := strings.Count(w, "a") + strings.Count(w, "b")
		if n, e := plait.Crossings(w); n != 2*small-len(w) || e != api.OK {
			t.Fatal(w, n, e)
		}
		fixed := 0
		for i, end := range ends {
			if i == end {
				fixed++
			}
		}
		rings := map[int]int{3: 3, 1: 2, 0: 1}[fixed]
		if n, e := plait.Rings(w); n != rings || e != api.OK {
			t.Fatal(w, n, rings, e)
		}
	}
	for i, x := range []struct {
		w           string
		ends        [3]int
		rings       int
		over, under [3]int
	}{
		{"", [3]int{0, 1, 2}, 3, [3]int{}, [3]int{}}, {"a", [3]int{1, 0, 2}, 2, [3]int{1, 0, 0}, [3]int{0, 1, 0}}, {"A", [3]int{1, 0, 2}, 2, [3]int{0, 1, 0}, [3]int{1, 0, 0}},
		{"B", [3]int{0, 2, 1}, 2, [3]int{0, 0, 1}, [3]int{0, 1, 0}}, {"ab", [3]int{2, 0, 1}, 1, [3]int{2, 0, 0}, [3]int{0, 1, 1}}, {"ba", [3]int{1, 2, 0}, 1, [3]int{1, 1, 0}, [3]int{0, 0, 2}},
		{"aba", [3]int{2, 1, 0}, 2, [3]int{2, 1, 0}, [3]int{0, 1, 2}}, {"aBaBaB", [3]int{0, 1, 2}, 3, [3]int{2, 2, 2}, [3]int{2, 2, 2}},
	} {
		if ends, e := plait.Ends(x.w); ends != x.ends || e != api.OK {
			t.Errorf("%d: %v, %v", i, ends, e)
		}
		if n, e := plait.Rings(x.w); n != x.rings || e != api.OK {
			t.Errorf("%d: %v, %v", i, n, e)
		}
		if over, under, e := plait.Shadow(x.w); over != x.over || under != x.under || e != api.OK {
			t.Errorf("%d: %v, %v, %v", i, over, under, e)
		}
	}
}

// product multiplies the matrices of the letters without a limit.
func product(w string) [4]int {
	of := map[rune][4]int64{'a': {1, 1, 0, 1}, 'A': {1, -1, 0, 1}, 'b': {1, 0, -1, 1}, 'B': {1, 0, 1, 1}}
	m := [4]*big.Int{big.NewInt(1), big.NewInt(0), big.NewInt(0), big.NewInt(1)}
	for _, c := range w {
		var next [4]*big.Int
		for i := range 2 {
			for j := range 2 {
				x := new(big.Int).Mul(m[2*i], big.NewInt(of[c][j]))
				y := new(big.Int).Mul(m[2*i+1], big.NewInt(of[c][2+j]))
				next[2*i+j] = x.Add(x, y)
			}
		}
		m = next
	}
	var out [4]int
	for i, x := range m {
		out[i] = int(x.Int64())
	}
	return out
}

func TestP6_3(t *testing.T) {
	r := rand.New(rand.NewSource(64))
	for range 1000 {
		w := someWord(r, 60)
		if m, e := plait.Matrix(w); m != product(w) || e != api.OK {
			t.Fatal(w, m, e)
		}
	}
	for w, want := range map[string][4]int{"": {1, 0, 0, 1}, "a": {1, 1, 0, 1}, "A": {1, -1, 0, 1}, "b": {1, 0, -1, 1}, "B": {1, 0, 1, 1}, "aB": {2, 1, 1, 1}, "aba": {0, 1, -1, 0}, "bab": {0, 1, -1, 0}, "ab": {0, 1, -1, 1}} {
		if m, e := plait.Matrix(w); m != want || e != api.OK {
			t.Error(w, m, e)
		}
	}
	if m, e := plait.Matrix(longest); m != product(longest) || m[0] < 1000000000000 || e != api.OK {
		t.Error(m, e)
	}
}

// twists returns the word of some half twists.
func twists(k int) string {
	if k < 0 {
		return strings.Repeat("ABA", -k)
	}
	return strings.Repeat("aba", k)
}

func crossings(w string) int {
	return 2*(strings.Count(w, "a")+strings.Count(w, "b")) - len(w)
}

// changed makes other words of the same plait.
func changed(r *rand.Rand, w string) string {
	for range r.Intn(30) {
		i := r.Intn(len(w) + 1)
		pair := []string{"aA", "Aa", "bB", "Bb"}[r.Intn(4)]
		switch {
		case r.Intn(3) == 0 && len(w) < 50:
			w = w[:i] + pair + w[i:]
		case strings.HasPrefix(w[i:], "aba"):
			w = w[:i] + "bab" + w[i+3:]
		case strings.HasPrefix(w[i:], "bab"):
			w = w[:i] + "aba" + w[i+3:]
		case strings.HasPrefix(w[i:], pair):
			w = w[:i] + w[i+2:]
		}
	}
	return w
}

func TestP6_4Normal(t *testing.T) {
	r := rand.New(rand.NewSource(65))
	for range 3000 {
		w := someWord(r, 60)
		if r.Intn(3) == 0 {
			w = changed(r, twists(r.Intn(9)-4)+someWord(r, 5))
		}
		if !plait.Valid(w) {
			continue
		}
		k, p, e := plait.Normal(w)
		if e != api.OK || strings.Trim(p, "ab") != "" || strings.Contains(p, "aba") || strings.Contains(p, "bab") || len(p) > 2*len(w) {
			t.Fatal(w, k, p, e)
		}
		whole := twists(k) + p
		if product(whole) != product(w) || crossings(whole) != crossings(w) {
			t.Fatal(w, k, p)
		}
	}
	for w, want := range map[string]struct {
		k int
		p string
	}{
		"": {0, ""}, "a": {0, "a"}, "b": {0, "b"}, "A": {-1, "ab"}, "B": {-1, "ba"}, "aba": {1, ""}, "bab": {1, ""}, "ABA": {-1, ""}, "BAB": {-1, ""}, "aA": {0, ""}, "bB": {0, ""},
		"aab": {0, "aab"}, "abab": {1, "b"}, "baba": {1, "a"}, "aaba": {1, "b"}, "AA": {-2, "baab"}, "aB": {-1, "bba"}, "abaaba": {2, ""}, "ab": {0, "ab"},
	} {
		if k, p, e := plait.Normal(w); k != want.k || p != want.p || e != api.OK {
			t.Error(w, k, p, e)
		}
	}
	k, p, e := plait.Normal(strings.Repeat("A", 60))
	if k != -60 || len(p) != 120 || e != api.OK {
		t.Error(k, p, e)
	}
}

func TestP6_4Same(t *testing.T) {
	r := rand.New(rand.NewSource(66))
	differ := 0
	for range 3000 {
		u := someWord(r, 12)
		v := changed(r, u)
		if !plait.Valid(v) {
			continue
		}
		if ok, e := plait.Same(u, v); !ok || e != api.OK {
			t.Fatal(u, v, ok, e)
		}
		w := someWord(r, 6)
		x := someWord(r, 6)
		want := product(w) == product(x) && crossings(w) == crossings(x)
		if ok, e := plait.Same(w, x); ok != want || e != api.OK {
			t.Fatal(w, x, ok, e)
		}
		if !want {
			differ++
		}
	}
	if differ < 100 {
		t.Error("few differ:", differ)
	}
	for _, x := range []struct {
		u, v string
		want bool
	}{
		{"aba", "bab", true}, {"aA", "", true}, {"ab", "ba", false}, {"a", "b", false}, {"a", "A", false}, {"aba", "ABA", false}, {"abaaba", "ababab", true},
		// The same matrix, but other crossings: four half twists.
		{"abaabaabaaba", "", false}, {"abaaba", "ABAABA", false}, {"aaa", "bbb", false}, {"", "", true},
	} {
		if ok, e := plait.Same(x.u, x.v); ok != x.want || e != api.OK {
			t.Error(x, ok, e)
		}
	}
}

func TestP6_4IsTwist(t *testing.T) {
	r := rand.New(rand.NewSource(67))
	yes := 0
	of := map[int][4]int{}
	for k := -20; k <= 20; k++ {
		of[k] = product(twists(k))
	}
	for range 4000 {
		w := someWord(r, 6)
		if r.Intn(2) == 0 {
			w = changed(r, twists(r.Intn(9)-4))
			if r.Intn(3) == 0 {
				w += letters[r.Intn(4):][:1]
			}
		}
		if !plait.Valid(w) {
			continue
		}
		k := crossings(w) / 3
		want := crossings(w) == 3*k && product(w) == of[k]
		if ok, e := plait.IsTwist(w); ok != want || e != api.OK {
			t.Fatal(w, ok, e)
		}
		if want {
			yes++
		}
	}
	if yes < 100 {
		t.Error("few are twists:", yes)
	}
	for w, want := range map[string]bool{"": true, "aba": true, "BAB": true, "ababab": true, "aA": true, "a": false, "ab": false, "abab": false, "aBaBaB": false} {
		if ok, e := plait.IsTwist(w); ok != want || e != api.OK {
			t.Error(w, ok, e)
		}
	}
}

// someStyle writes a style and the word that it stands for.
func someStyle(r *rand.Rand, depth int) (style, word string) {
	for range r.Intn(4) {
		item, w := string(letters[r.Intn(4)]), ""
		if depth < 8 && r.Intn(3) == 0 {
			inside, x := someStyle(r, depth+1)
			item, w = "("+inside+")", x
			if r.Intn(2) == 0 {
				n := r.Intn(10)
				item += string(rune('0' + n))
				w = strings.Repeat(x, n)
			}
		} else {
			w = item
		}
		for range r.Intn(3) {
			switch r.Intn(3) {
			case 0:
				item, w = "!"+item, inverse(w)
			case 1:
				item, w = "~"+item, mirror(w)
			case 2:
				item, w = "%"+item, flip(w)
			}
		}
		style, word = style+item, word+w
	}
	return style, word
}

func TestP6_5Parse(t *testing.T) {
	r := rand.New(rand.NewSource(68))
	long := 0
	for range 5000 {
		style, want := someStyle(r, 0)
		e := api.OK
		if len(want) > 60 {
			want, e = "", api.ErrLarge
			long++
		}
		if len(style) > 4000 {
			continue
		}
		if w, err := plait.Parse(style); w != want || err != e {
			t.Fatal(style, w, want, err)
		}
	}
	if long == 0 {
		t.Error("no word was too long")
	}
	for range 500 {
		w := someWord(r, 60)
		if got, e := plait.Parse(w); got != w || e != api.OK {
			t.Fatal(w, got, e)
		}
	}
	nested := func(n int, inside string) string { return strings.Repeat("(", n) + inside + strings.Repeat(")", n) }
	nines := strings.Repeat("(", 8) + "ab" + strings.Repeat(")9", 8)
	for i, x := range []struct{ style, want string }{
		{"", ""}, {"()", ""}, {"()7", ""}, {"(aB)3", "aBaBaB"}, {"!(ab)2", "BABA"}, {"~a", "A"}, {"%a", "b"}, {"!a", "A"}, {"!ab", "Ab"}, {"!!a", "a"}, {"!~%(ab)", "ab"},
		{"!~(aab)", "baa"}, {"~%(aaB)", "BBa"}, {"(ab)0", ""}, {"(ab)1", "ab"}, {"(a)(b)2(A)", "abbA"}, {"((a)2b)2", "aabaab"}, {"aA", "aA"}, {"(a)9(b)0", "aaaaaaaaa"}, {"!()", ""},
		{nested(8, "a"), "a"}, {nested(8, "") + nested(8, "b"), "b"}, {"(" + nines[1:len(nines)-2] + ")0a", "a"}, {"a!(" + nines[1:len(nines)-2] + ")0b", "ab"},
		{"(" + strings.Repeat("a", 3990) + ")0", ""}, {strings.Repeat("!", 3998) + "ab", "ab"}, {strings.Repeat("!", 3997) + "ab", "Ab"}, {strings.Repeat("()", 2000), ""},
		{longest, longest}, {"(" + longest + ")1", longest}, {"((aB)5)6", longest}, {"(((((aB)9)9)9)9)0", ""}, {"((" + longest + "a)0b)2", "bb"},
	} {
		if w, e := plait.Parse(x.style); w != x.want || e != api.OK {
			t.Errorf("%d: %q: %q, %v", i, x.style, w, e)
		}
	}
}

func TestP6_5Errors(t *testing.T) {
	nested := func(n int, inside string) string { return strings.Repeat("(", n) + inside + strings.Repeat(")", n) }
	tooLong := strings.Repeat("a", 61)
	for i, x := range []struct {
		style string
		want  api.Errno
	}{
		{strings.Repeat("a", 4001), api.ErrLarge}, {strings.Repeat("x", 4001), api.ErrLarge}, {strings.Repeat("()", 2000) + "x", api.ErrLarge},
		{" ", api.ErrSyntax}, {"a b", api.ErrSyntax}, {"c", api.ErrSyntax}, {"a2", api.ErrSyntax}, {"2", api.ErrSyntax}, {"(a", api.ErrSyntax}, {"a)", api.ErrSyntax}, {")", api.ErrSyntax}, {"(", api.ErrSyntax}, {")(", api.ErrSyntax},
		{"!", api.ErrSyntax}, {"a!", api.ErrSyntax}, {"(!)", api.ErrSyntax}, {"!)", api.ErrSyntax}, {"(a)23", api.ErrSyntax}, {"(a)!2", api.ErrSyntax}, {"(a)-1", api.ErrSyntax}, {"(a) 2", api.ErrSyntax}, {"!2a", api.ErrSyntax},
		{"(a)2)", api.ErrSyntax}, {"((a)", api.ErrSyntax}, {"a\n", api.ErrSyntax}, {"\x00", api.ErrSyntax}, {"ä", api.ErrSyntax}, {"(a)٣", api.ErrSyntax}, {"[a]", api.ErrSyntax}, {"(a)/", api.ErrSyntax}, {"(a):", api.ErrSyntax},
		{nested(9, "a"), api.ErrSyntax}, {nested(9, ""), api.ErrSyntax}, {"(" + nested(9, "") + ")0", api.ErrSyntax}, {nested(8, "a()"), api.ErrSyntax}, {nested(1000, ""), api.ErrSyntax}, {strings.Repeat("(", 4000), api.ErrSyntax},
		{tooLong, api.ErrLarge}, {tooLong + "x", api.ErrSyntax}, {tooLong + ")", api.ErrSyntax}, {"(" + tooLong + ")0c", api.ErrSyntax}, {"(" + tooLong + ")", api.ErrLarge}, {"(" + tooLong + ")1", api.ErrLarge},
		{"!(" + tooLong + ")", api.ErrLarge}, {"(aB)9(aB)9(aB)9(aB)4", api.ErrLarge}, {"((((((((a)9)9)9)9)9)9)9)9", api.ErrLarge}, {strings.Repeat("a", 4000), api.ErrLarge}, {strings.Repeat("!", 4000), api.ErrSyntax},
		{longest + "(a)1", api.ErrLarge}, {longest + "((a)9)0(b)0", api.OK}, {"((a)9)9", api.ErrLarge}, {"(" + longest + ")2", api.ErrLarge}, {"(" + tooLong + ")0" + longest + "b", api.ErrLarge},
	} {
		want := ""
		if x.want == api.OK {
			want = longest
		}
		if w, e := plait.Parse(x.style); w != want || e != x.want {
			t.Errorf("%d: %.80q: %q, %v, want %v", i, x.style, w, e, x.want)
		}
	}
}
