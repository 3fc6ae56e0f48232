package plot_test

import (
	"fmt"
	"math"
	"math/rand"
	"slices"
	"testing"

	"wigmaker/api"
	"wigmaker/plot"
)

func show(x any) string {
	return fmt.Sprintf("%v", x)
}

func wear(actor, size, from, to int) api.Wear {
	return api.Wear{Actor: actor, Size: size, From: from, To: to}
}

func play(redress, change int, wears ...api.Wear) api.Play {
	return api.Play{Wears: wears, Redress: redress, Change: change}
}

// close reports whether two wearings are less than so many minutes apart.
func close(v, w api.Wear, minutes int) bool {
	switch {
	case v.From < w.From:
		return w.From < v.To+minutes
	case v.From > w.From:
		return v.From < w.To+minutes
	}
	return true
}

// overlap reports whether the actors of a play have time enough.
func overlap(p api.Play) bool {
	for i, v := range p.Wears {
		for j, w := range p.Wears {
			if i != j && v.Actor == w.Actor && close(v, w, p.Change) {
				return true
			}
		}
	}
	return false
}

// somePlay is valid.
func somePlay(r *rand.Rand) api.Play {
	p := play(r.Intn(8), r.Intn(6))
	end := 20 + r.Intn(100)
	actors, sizes := 1+r.Intn(8), 1+r.Intn(3)
	for range r.Intn(17) {
		from := r.Intn(end)
		w := wear(r.Intn(actors), 20+r.Intn(sizes), from, from+1+r.Intn(15))
		p.Wears = append(p.Wears, w)
		if overlap(p) {
			p.Wears = p.Wears[:len(p.Wears)-1]
		}
	}
	return p
}

type badPlay struct {
	p    api.Play
	want api.Errno
}

func badPlays() []badPlay {
	good := wear(1, 21, 0, 10)
	list := []badPlay{
		{play(0, 0, make([]api.Wear, 17)...), api.ErrLarge}, {play(-1, -1, slices.Repeat([]api.Wear{good}, 17)...), api.ErrLarge},
		{play(-1, 0), api.ErrArg}, {play(601, 0), api.ErrArg}, {play(0, -1, good), api.ErrArg}, {play(0, 601, good), api.ErrArg}, {play(math.MinInt, math.MaxInt), api.ErrArg},
		{play(0, 0, good, good, wear(0, 0, 0, 1)), api.ErrArg}, {play(601, 0, good, good), api.ErrArg},
		{play(0, 0, good, good), api.ErrOverlap}, {play(0, 0, good, wear(1, 22, 9, 12)), api.ErrOverlap}, {play(0, 0, wear(1, 22, 9, 12), good), api.ErrOverlap}, {play(0, 5, good, wear(1, 22, 14, 22)), api.ErrOverlap},
		{play(0, 5, wear(1, 22, 14, 22), good), api.ErrOverlap}, {play(0, 0, wear(1, 22, 0, 1), wear(2, 9, 3, 5), wear(1, 22, 0, 300)), api.ErrOverlap}, {play(0, 600, good, wear(1, 21, 599, 600)), api.ErrOverlap},
		{play(0, 0, wear(1, 5, 3, 4), wear(1, 5, 0, 100)), api.ErrOverlap},
	}
	for _, w := range []api.Wear{
		wear(-1, 21, 0, 1), wear(100, 21, 0, 1), wear(0, 0, 0, 1), wear(0, 100, 0, 1), wear(0, 21, -1, 1), wear(0, 21, 5, 5), wear(0, 21, 5, 4), wear(0, 21, 599, 601), {},
		wear(math.MinInt, 21, 0, 1), wear(0, math.MaxInt, 0, 1), wear(0, 21, math.MinInt, 1), wear(0, 21, 0, math.MaxInt), wear(0, 21, math.MaxInt, math.MinInt),
	} {
		list = append(list, badPlay{play(0, 0, good, w), api.ErrArg})
	}
	return list
}

func TestP7_1Validate(t *testing.T) {
	for i, x := range badPlays() {
		if e := plot.Validate(x.p); e != x.want {
			t.Errorf("%d: %v, want %v", i, e, x.want)
		}
	}
	for i, p := range []api.Play{
		{}, play(600, 600), play(0, 0, wear(0, 1, 0, 600)), play(0, 0, wear(99, 99, 599, 600)), play(0, 0, wear(1, 5, 0, 10), wear(1, 6, 10, 12)), play(0, 5, wear(1, 6, 15, 22), wear(1, 5, 0, 10)),
		play(0, 600, wear(1, 6, 15, 22), wear(2, 5, 0, 10)), play(600, 0, wear(1, 6, 0, 2), wear(1, 6, 2, 10)),
	} {
		if e := plot.Validate(p); e != api.OK {
			t.Errorf("%d: %v", i, e)
		}
	}
	r := rand.New(rand.NewSource(71))
	for range 2000 {
		p := somePlay(r)
		if e := plot.Validate(p); e != api.OK {
			t.Fatal(p, e)
		}
		if len(p.Wears) > 1 {
			p.Wears[0].Actor = p.Wears[1].Actor
			want := api.OK
			if overlap(p) {
				want = api.ErrOverlap
			}
			if e := plot.Validate(p); e != want {
				t.Fatal(p, e, want)
			}
		}
	}
}

func TestP7_1Common(t *testing.T) {
	for i, x := range badPlays() {
		check := func(name string, e api.Errno, zero bool) {
			if e != x.want || !zero {
				t.Errorf("%d: %s: %v, want %v; zero values: %v", i, name, e, x.want, zero)
			}
		}
		ok, e := plot.Clash(x.p, -1, 0)
		check("Clash", e, !ok)
		check("Check", plot.Check(x.p, []int{-1}), true)
		n, e := plot.Used(x.p, []int{-1})
		check("Used", e, n == 0)
		n, e = plot.Least(x.p)
		check("Least", e, n == 0)
		wigs, e := plot.Assign(x.p)
		check("Assign", e, len(wigs) == 0)
		set, e := plot.Crowd(x.p, api.Moment{Size: 21, At: 5})
		check("Crowd", e, len(set) == 0)
		n, e = plot.Needs(x.p, make([]api.Moment, 17))
		check("Needs", e, n == 0)
		moments, e := plot.Moments(x.p)
		check("Moments", e, len(moments) == 0)
		pairs, e := plot.Quick(x.p, -1)
		check("Quick", e, len(pairs) == 0)
		p, e := plot.Delay(x.p, -1, -1)
		check("Delay", e, len(p.Wears) == 0 && p.Redress == 0 && p.Change == 0)
	}
}

func TestP7_2Clash(t *testing.T) {
	r := rand.New(rand.NewSource(72))
	yes, no := 0, 0
	for range 1000 {
		p := somePlay(r)
		for i, v := range p.Wears {
			for j, w := range p.Wears {
				want := i == j || v.Size != w.Size || close(v, w, p.Redress)
				if ok, e := plot.Clash(p, i, j); ok != want || e != api.OK {
					t.Fatal(p, i, j, ok, e)
				}
				if want {
					yes++
				} else {
					no++
				}
			}
		}
		n := len(p.Wears)
		for _, x := range [][2]int{{-1, 0}, {0, -1}, {n, 0}, {0, n}, {math.MinInt, math.MaxInt}} {
			if ok, e := plot.Clash(p, x[0], x[1]); ok || e != api.ErrNone {
				t.Fatal(p, x, ok, e)
			}
		}
	}
	if yes < 100 || no < 100 {
		t.Error(yes, no)
	}
	p := play(5, 0, wear(1, 21, 0, 10), wear(2, 21, 15, 20), wear(3, 21, 14, 20), wear(4, 21, 0, 1), wear(5, 22, 50, 60))
	for i, want := range []bool{true, false, true, true, true} {
		if ok, _ := plot.Clash(p, 0, i); ok != want {
			t.Error(i, ok)
		}
		if ok, _ := plot.Clash(p, i, 0); ok != want {
			t.Error(i, ok)
		}
	}
}

// errorOf follows the words of P7.2 for Check.
func errorOf(p api.Play, wigs []int) api.Errno {
	if len(wigs) != len(p.Wears) || slices.ContainsFunc(wigs, func(n int) bool { return n < 0 }) {
		return api.ErrArg
	}
	e := api.OK
	for i, v := range p.Wears {
		for j, w := range p.Wears {
			if i == j || wigs[i] != wigs[j] {
				continue
			}
			if v.Size != w.Size {
				return api.ErrFit
			}
			if close(v, w, p.Redress) {
				e = api.ErrOverlap
			}
		}
	}
	return e
}

func TestP7_2Check(t *testing.T) {
	r := rand.New(rand.NewSource(73))
	seen := map[api.Errno]int{}
	for range 4000 {
		p := somePlay(r)
		wigs, _ := plot.Assign(p)
		for range r.Intn(3) {
			if len(wigs) > 0 {
				wigs[r.Intn(len(wigs))] = r.Intn(9)
			}
		}
		if r.Intn(20) == 0 && len(wigs) > 0 {
			wigs[r.Intn(len(wigs))] = -1
		}
		before := show(p) + show(wigs)
		want := errorOf(p, wigs)
		seen[want]++
		if e := plot.Check(p, wigs); e != want {
			t.Fatal(p, wigs, e, want)
		}
		different := 0
		for i, n := range wigs {
			if want == api.OK && !slices.Contains(wigs[:i], n) {
				different++
			}
		}
		if n, e := plot.Used(p, wigs); n != different || e != want {
			t.Fatal(p, wigs, n, different, e)
		}
		if show(p)+show(wigs) != before {
			t.Fatal("an argument was changed")
		}
	}
	if len(seen) != 4 {
		t.Error(seen)
	}
	p := play(0, 0, wear(1, 21, 0, 10), wear(2, 21, 0, 10), wear(3, 22, 0, 10))
	for i, x := range []struct {
		wigs []int
		used int
		want api.Errno
	}{
		{[]int{0, 1, 2}, 3, api.OK}, {[]int{math.MaxInt, 7, 0}, 3, api.OK}, {[]int{0, 1}, 0, api.ErrArg}, {[]int{0, 1, 2, 3}, 0, api.ErrArg}, {nil, 0, api.ErrArg}, {[]int{0, 0, -1}, 0, api.ErrArg}, {[]int{math.MinInt, 0, 1}, 0, api.ErrArg},
		{[]int{0, 0, 1}, 0, api.ErrOverlap}, {[]int{0, 1, 1}, 0, api.ErrFit}, {[]int{0, 0, 0}, 0, api.ErrFit},
	} {
		if n, e := plot.Used(p, x.wigs); n != x.used || e != x.want {
			t.Errorf("%d: %d, %v", i, n, e)
		}
		if e := plot.Check(p, x.wigs); e != x.want {
			t.Errorf("%d: %v", i, e)
		}
	}
	if e := plot.Check(play(0, 0), nil); e != api.OK {
		t.Error(e)
	}
}

// occupied returns the wearings of a size that occupy a wig at a minute.
func occupied(p api.Play, size, at int) []int {
	var set []int
	for i, w := range p.Wears {
		if w.Size == size && w.From <= at && at < w.To+p.Redress {
			set = append(set, i)
		}
	}
	return set
}

// least finds the smallest number of wigs from the crowds of all minutes.
func least(p api.Play) int {
	sum := 0
	for size := 20; size <= 22; size++ {
		most := 0
		for at := 0; at <= 1300; at++ {
			most = max(most, len(occupied(p, size, at)))
		}
		sum += most
	}
	return sum
}

func TestP7_2Least(t *testing.T) {
	r := rand.New(rand.NewSource(74))
	for range 300 {
		p := somePlay(r)
		before := show(p)
		want := least(p)
		if n, e := plot.Least(p); n != want || e != api.OK {
			t.Fatal(p, n, want, e)
		}
		wigs, e := plot.Assign(p)
		if e != api.OK || errorOf(p, wigs) != api.OK {
			t.Fatal(p, wigs, e)
		}
		used := map[int]bool{}
		for _, n := range wigs {
			if n >= want {
				t.Fatal(p, wigs, want)
			}
			used[n] = true
		}
		if len(used) != want {
			t.Fatal(p, wigs, want)
		}
		again, _ := plot.Assign(p)
		if !slices.Equal(wigs, again) || show(p) != before {
			t.Fatal("equal calls differ", p)
		}
		moments, e := plot.Moments(p)
		if e != api.OK {
			t.Fatal(p, e)
		}
		needs := 0
		for i, m := range moments {
			needs += len(occupied(p, m.Size, m.At))
			if i > 0 && moments[i-1].Size >= m.Size {
				t.Fatal(p, moments)
			}
		}
		if needs != want {
			t.Fatal(p, moments, needs, want)
		}
		if n, e := plot.Needs(p, moments); n != needs || e != api.OK {
			t.Fatal(p, moments, n, needs, e)
		}
	}
	three := play(5, 0, wear(1, 21, 0, 10), wear(2, 21, 8, 20), wear(3, 21, 15, 30))
	if n, e := plot.Least(three); n != 2 || e != api.OK {
		t.Error(n, e)
	}
	three.Redress = 6
	if n, e := plot.Least(three); n != 3 || e != api.OK {
		t.Error(n, e)
	}
	if n, e := plot.Least(play(600, 600)); n != 0 || e != api.OK {
		t.Error(n, e)
	}
	full := play(600, 0)
	for i := range 16 {
		full.Wears = append(full.Wears, wear(i, 1+i%2, 5*i, 5*i+5))
	}
	if n, e := plot.Least(full); n != 16 || e != api.OK {
		t.Error(n, e)
	}
}

func TestP7_3Crowd(t *testing.T) {
	r := rand.New(rand.NewSource(75))
	for range 500 {
		p := somePlay(r)
		for range 50 {
			m := api.Moment{Size: 19 + r.Intn(5), At: r.Intn(140) - 5}
			if set, e := plot.Crowd(p, m); e != api.OK || !slices.Equal(set, occupied(p, m.Size, m.At)) {
				t.Fatal(p, m, set, e)
			}
		}
	}
	p := play(5, 0, wear(1, 21, 0, 10), wear(2, 21, 8, 20), wear(3, 22, 8, 20))
	for m, want := range map[api.Moment]string{
		{Size: 21, At: 0}: "[0]", {Size: 21, At: 7}: "[0]", {Size: 21, At: 8}: "[0 1]", {Size: 21, At: 14}: "[0 1]", {Size: 21, At: 15}: "[1]", {Size: 21, At: 24}: "[1]", {Size: 21, At: 25}: "[]", {Size: 21, At: -1}: "[]",
		{Size: 22, At: 9}: "[2]", {Size: 0, At: 9}: "[]", {Size: math.MinInt, At: 9}: "[]", {Size: 21, At: math.MinInt}: "[]", {Size: 21, At: math.MaxInt}: "[]",
	} {
		if set, e := plot.Crowd(p, m); show(set) != want || e != api.OK {
			t.Error(m, set, e)
		}
	}
}

func TestP7_3Needs(t *testing.T) {
	p := play(5, 0, wear(1, 21, 0, 10), wear(2, 21, 8, 20), wear(3, 22, 8, 20))
	at := func(size, minute int) api.Moment { return api.Moment{Size: size, At: minute} }
	var seventeen []api.Moment
	for size := range 17 {
		seventeen = append(seventeen, at(size+10, 9))
	}
	for i, x := range []struct {
		l    []api.Moment
		want int
		e    api.Errno
	}{
		{nil, 0, api.OK}, {[]api.Moment{at(21, 9), at(22, 9)}, 3, api.OK}, {[]api.Moment{at(22, 9), at(21, 3)}, 2, api.OK}, {[]api.Moment{at(21, 3), at(21, 9)}, 0, api.ErrTwice}, {[]api.Moment{at(21, 3), at(22, 5), at(21, 3)}, 0, api.ErrTwice},
		{[]api.Moment{at(-5, -5), at(22, 9)}, 1, api.OK}, {seventeen[1:], 3, api.OK}, {seventeen, 0, api.ErrLarge}, {make([]api.Moment, 17), 0, api.ErrLarge}, {make([]api.Moment, 16), 0, api.ErrTwice},
	} {
		if n, e := plot.Needs(p, x.l); n != x.want || e != x.e {
			t.Errorf("%d: %d, %v", i, n, e)
		}
	}
}

func TestP7_4Quick(t *testing.T) {
	r := rand.New(rand.NewSource(76))
	found := 0
	for range 2000 {
		p := somePlay(r)
		minutes := r.Intn(30)
		var want [][2]int
		for i, v := range p.Wears {
			for j, w := range p.Wears {
				between := slices.ContainsFunc(p.Wears, func(u api.Wear) bool { return u.Actor == v.Actor && v.From < u.From && u.From < w.From })
				if v.Actor == w.Actor && v.From < w.From && !between && w.From < v.To+minutes {
					want = append(want, [2]int{i, j})
				}
			}
		}
		pairs, e := plot.Quick(p, minutes)
		if e != api.OK || !slices.Equal(pairs, want) {
			t.Fatal(p, minutes, pairs, want, e)
		}
		found += len(pairs)
		for _, minutes := range []int{-1, 601, math.MinInt, math.MaxInt} {
			if pairs, e := plot.Quick(p, minutes); len(pairs) != 0 || e != api.ErrArg {
				t.Fatal(p, minutes, pairs, e)
			}
		}
	}
	if found < 300 {
		t.Error("few pairs:", found)
	}
	p := play(0, 0, wear(1, 21, 50, 60), wear(1, 21, 0, 10), wear(1, 22, 20, 30), wear(2, 21, 61, 62))
	for minutes, want := range map[int]string{0: "[]", 10: "[]", 11: "[[1 2]]", 20: "[[1 2]]", 21: "[[1 2] [2 0]]", 600: "[[1 2] [2 0]]"} {
		if pairs, e := plot.Quick(p, minutes); show(pairs) != want || e != api.OK {
			t.Error(minutes, pairs, e)
		}
	}
}

func TestP7_4Delay(t *testing.T) {
	r := rand.New(rand.NewSource(77))
	for range 1000 {
		p := somePlay(r)
		before := show(p)
		from, by := r.Intn(130), r.Intn(30)
		want := play(p.Redress, p.Change, slices.Clone(p.Wears)...)
		for i, w := range p.Wears {
			if w.From >= from {
				want.Wears[i] = wear(w.Actor, w.Size, w.From+by, w.To+by)
			}
		}
		got, e := plot.Delay(p, from, by)
		if e != api.OK || show(got) != show(want) || show(p) != before {
			t.Fatal(p, from, by, got, e)
		}
		if least(got) > least(p) {
			t.Fatal(p, from, by)
		}
		if len(got.Wears) > 0 {
			got.Wears[0].Size = 99
			if show(p) != before {
				t.Fatal("memory is shared")
			}
		}
	}
	p := play(3, 4, wear(1, 21, 0, 10), wear(1, 21, 20, 300))
	for i, x := range []struct {
		from, by int
		want     string
		e        api.Errno
	}{
		{20, 300, show(play(3, 4, wear(1, 21, 0, 10), wear(1, 21, 320, 600))), api.OK}, {20, 301, "{[] 0 0}", api.ErrArg}, {21, 600, show(p), api.OK}, {0, 0, show(p), api.OK}, {600, 600, show(p), api.OK}, {0, 600, "{[] 0 0}", api.ErrArg},
		{-1, 1, "{[] 0 0}", api.ErrArg}, {601, 1, "{[] 0 0}", api.ErrArg}, {5, -1, "{[] 0 0}", api.ErrArg}, {500, 601, "{[] 0 0}", api.ErrArg}, {math.MinInt, 0, "{[] 0 0}", api.ErrArg}, {0, math.MaxInt, "{[] 0 0}", api.ErrArg}, {0, math.MinInt, "{[] 0 0}", api.ErrArg},
	} {
		if got, e := plot.Delay(p, x.from, x.by); show(got) != x.want || e != x.e {
			t.Errorf("%d: %v, %v", i, got, e)
		}
	}
}

func job(work, ready, due int) api.Job {
	return api.Job{Work: work, Ready: ready, Due: due}
}

func slot(day, job, minutes int) api.Slot {
	return api.Slot{Day: day, Job: job, Minutes: minutes}
}

type badJobs struct {
	shifts []int
	jobs   []api.Job
	want   api.Errno
}

func allBadJobs() []badJobs {
	days := []int{100, 200, 300}
	list := []badJobs{
		{make([]int, 61), nil, api.ErrLarge}, {slices.Repeat([]int{-1}, 61), nil, api.ErrLarge}, {days, make([]api.Job, 9), api.ErrLarge}, {[]int{-1}, slices.Repeat([]api.Job{job(-1, 0, 0)}, 9), api.ErrLarge},
		{[]int{5, -1}, nil, api.ErrArg}, {[]int{1441, 5}, nil, api.ErrArg}, {[]int{math.MinInt}, nil, api.ErrArg}, {[]int{math.MaxInt, math.MaxInt}, nil, api.ErrArg}, {nil, []api.Job{job(0, 0, 0)}, api.ErrArg},
	}
	for _, j := range []api.Job{job(-1, 0, 0), job(20001, 0, 0), job(1, -1, 0), job(1, 1, 0), job(1, 0, 3), job(1, 3, 3), job(math.MaxInt, 0, 0), job(1, math.MinInt, math.MaxInt), job(1, math.MaxInt, math.MinInt), job(1, -2, -1)} {
		list = append(list, badJobs{days, []api.Job{job(1, 0, 0), j}, api.ErrArg})
	}
	return list
}

func TestP7_5(t *testing.T) {
	for i, x := range allBadJobs() {
		check := func(name string, e api.Errno, zero bool) {
			if e != x.want || !zero {
				t.Errorf("%d: %s: %v, want %v; zero values: %v", i, name, e, x.want, zero)
			}
		}
		check("ValidateJobs", plot.ValidateJobs(x.shifts, x.jobs), true)
		check("CheckPlan", plot.CheckPlan(x.shifts, x.jobs, []api.Slot{slot(-1, 0, 0)}), true)
		plan, ok, e := plot.Plan(x.shifts, x.jobs)
		check("Plan", e, len(plan) == 0 && !ok)
		ok, e = plot.IsProof(x.shifts, x.jobs, 0, 0)
		check("IsProof", e, !ok)
		from, to, ok, e := plot.Proof(x.shifts, x.jobs)
		check("Proof", e, from == 0 && to == 0 && !ok)
		n, e := plot.Spare(x.shifts, x.jobs, 0, 0)
		check("Spare", e, n == 0)
		n, e = plot.Spare(x.shifts, x.jobs, 5, -1)
		check("Spare", e, n == 0)
	}
	for i, x := range []badJobs{
		{nil, nil, api.OK}, {make([]int, 60), slices.Repeat([]api.Job{job(20000, 0, 59)}, 8), api.OK}, {[]int{0, 1440}, []api.Job{job(0, 1, 1), job(5, 0, 0)}, api.OK},
	} {
		if e := plot.ValidateJobs(x.shifts, x.jobs); e != api.OK {
			t.Errorf("%d: %v", i, e)
		}
	}
}

func someJobs(r *rand.Rand) ([]int, []api.Job) {
	var shifts []int
	var jobs []api.Job
	for range 1 + r.Intn(6) {
		shifts = append(shifts, r.Intn(6))
	}
	for range r.Intn(6) {
		ready := r.Intn(len(shifts))
		jobs = append(jobs, job(r.Intn(6), ready, ready+r.Intn(len(shifts)-ready)))
	}
	return shifts, jobs
}

// planError follows the words of P7.6 for CheckPlan.
func planError(shifts []int, jobs []api.Job, plan []api.Slot) api.Errno {
	for _, s := range plan {
		if s.Day < 0 || s.Day >= len(shifts) || s.Job < 0 || s.Job >= len(jobs) {
			return api.ErrNone
		}
		if s.Minutes < 1 || s.Day < jobs[s.Job].Ready || s.Day > jobs[s.Job].Due {
			return api.ErrArg
		}
	}
	for i, s := range plan {
		for _, u := range plan[:i] {
			if s.Day == u.Day && s.Job == u.Job {
				return api.ErrTwice
			}
		}
	}
	for day, minutes := range shifts {
		sum := 0
		for _, s := range plan {
			if s.Day == day {
				sum += s.Minutes
			}
		}
		if sum > minutes {
			return api.ErrOverlap
		}
	}
	for i, j := range jobs {
		sum := 0
		for _, s := range plan {
			if s.Job == i {
				sum += s.Minutes
			}
		}
		if sum != j.Work {
			return api.ErrShort
		}
	}
	return api.OK
}

func TestP7_6CheckPlan(t *testing.T) {
	r := rand.New(rand.NewSource(78))
	seen := map[api.Errno]int{}
	for range 20000 {
		shifts, jobs := someJobs(r)
		plan, _, _ := plot.Plan(shifts, jobs)
		for range r.Intn(3) {
			if len(plan) > 0 && r.Intn(2) == 0 {
				i := r.Intn(len(plan))
				switch r.Intn(4) {
				case 0:
					plan[i].Minutes += r.Intn(3) - 1
				case 1:
					plan[i].Day += r.Intn(3) - 1
				case 2:
					plan[i].Job += r.Intn(3) - 1
				case 3:
					plan = slices.Delete(plan, i, i+1)
				}
			} else {
				plan = append(plan, slot(r.Intn(len(shifts)), r.Intn(len(jobs)+1), 1+r.Intn(3)))
			}
		}
		r.Shuffle(len(plan), func(i, j int) { plan[i], plan[j] = plan[j], plan[i] })
		before := show(shifts) + show(jobs) + show(plan)
		want := planError(shifts, jobs, plan)
		seen[want]++
		if e := plot.CheckPlan(shifts, jobs, plan); e != want {
			t.Fatal(shifts, jobs, plan, e, want)
		}
		if show(shifts)+show(jobs)+show(plan) != before {
			t.Fatal("an argument was changed")
		}
	}
	for _, e := range []api.Errno{api.OK, api.ErrNone, api.ErrArg, api.ErrTwice, api.ErrOverlap, api.ErrShort} {
		if seen[e] < 50 {
			t.Error(e, seen[e])
		}
	}
	shifts, jobs := []int{100, 100}, []api.Job{job(100, 0, 1), job(50, 1, 1)}
	for i, x := range []struct {
		plan []api.Slot
		want api.Errno
	}{
		{[]api.Slot{slot(1, 1, 50), slot(0, 0, 60), slot(1, 0, 40)}, api.OK}, {nil, api.ErrShort}, {[]api.Slot{slot(0, 0, 100), slot(1, 1, 51)}, api.ErrShort}, {[]api.Slot{slot(0, 0, 100), slot(1, 1, 49)}, api.ErrShort},
		{[]api.Slot{slot(0, 0, 0), slot(9, 0, 5)}, api.ErrArg}, {[]api.Slot{slot(9, 0, 5), slot(0, 0, 0)}, api.ErrNone}, {[]api.Slot{slot(0, 1, 5)}, api.ErrArg}, {[]api.Slot{slot(0, 2, 0)}, api.ErrNone}, {[]api.Slot{slot(0, -1, 0)}, api.ErrNone},
		{[]api.Slot{slot(2, 0, 1)}, api.ErrNone}, {[]api.Slot{slot(-1, 0, 1)}, api.ErrNone}, {[]api.Slot{slot(0, 0, 101)}, api.ErrOverlap}, {[]api.Slot{slot(0, 0, 101), slot(0, 0, 1)}, api.ErrTwice},
		{[]api.Slot{slot(1, 0, math.MaxInt), slot(1, 1, math.MaxInt)}, api.ErrOverlap}, {[]api.Slot{slot(0, 0, math.MaxInt)}, api.ErrOverlap}, {[]api.Slot{slot(0, 0, math.MinInt)}, api.ErrArg},
		{[]api.Slot{slot(1, 0, 51), slot(1, 1, 50)}, api.ErrOverlap}, {[]api.Slot{slot(math.MinInt, math.MaxInt, 1)}, api.ErrNone},
		{[]api.Slot{slot(1, 0, 1<<62), slot(1, 1, 1<<62), slot(0, 0, 5)}, api.ErrOverlap},
	} {
		if e := plot.CheckPlan(shifts, jobs, x.plan); e != x.want {
			t.Errorf("%d: %v, want %v", i, e, x.want)
		}
	}
	if e := plot.CheckPlan(shifts, []api.Job{job(50, 0, 0)}, []api.Slot{slot(1, 0, 50)}); e != api.ErrArg {
		t.Error(e)
	}
	if e := plot.CheckPlan(nil, nil, nil); e != api.OK {
		t.Error(e)
	}
}

func TestP7_6Plan(t *testing.T) {
	r := rand.New(rand.NewSource(79))
	yes, no := 0, 0
	for range 5000 {
		shifts, jobs := someJobs(r)
		before := show(shifts) + show(jobs)
		plan, ok, e := plot.Plan(shifts, jobs)
		if e != api.OK || !ok && len(plan) != 0 {
			t.Fatal(shifts, jobs, plan, e)
		}
		if ok {
			yes++
			if e := planError(shifts, jobs, plan); e != api.OK {
				t.Fatal(shifts, jobs, plan, e)
			}
			for i := 1; i < len(plan); i++ {
				if plan[i-1].Day > plan[i].Day || plan[i-1].Day == plan[i].Day && plan[i-1].Job >= plan[i].Job {
					t.Fatal(shifts, jobs, plan)
				}
			}
		} else {
			no++
		}
		again, _, _ := plot.Plan(shifts, jobs)
		if !slices.Equal(plan, again) || show(shifts)+show(jobs) != before {
			t.Fatal("equal calls differ", shifts, jobs)
		}
		// By Hall's theorem there is a plan exactly if no window excludes it.
		from, to, found := window(shifts, jobs)
		if found == ok {
			t.Fatal(shifts, jobs, plan, from, to)
		}
	}
	if yes < 500 || no < 500 {
		t.Error(yes, no)
	}
}

// TestP7_6Full has as many days and jobs as there may be.
func TestP7_6Full(t *testing.T) {
	shifts := slices.Repeat([]int{1440}, 60)
	var jobs []api.Job
	for i := range 8 {
		jobs = append(jobs, job(10800, 0, 59-i%2))
	}
	plan, ok, e := plot.Plan(shifts, jobs)
	if !ok || e != api.OK || planError(shifts, jobs, plan) != api.OK {
		t.Error(plan, ok, e)
	}
	if e := plot.CheckPlan(shifts, jobs, plan); e != api.OK {
		t.Error(e)
	}
	last := []api.Slot{slot(59, 7, 9), slot(59, 7, 9)}
	jobs[7] = job(20000, 59, 59)
	if e := plot.CheckPlan(shifts, jobs, last); e != api.ErrTwice {
		t.Error(e)
	}
	if from, to, found, e := plot.Proof(shifts, jobs); from != 0 || to != 59 || !found || e != api.OK {
		t.Error(from, to, found, e)
	}
	jobs[0], jobs[7] = job(0, 0, 59), job(1441, 59, 59)
	if from, to, found, e := plot.Proof(shifts, jobs); from != 59 || to != 59 || !found || e != api.OK {
		t.Error(from, to, found, e)
	}
	if plan, ok, e := plot.Plan(shifts, jobs); len(plan) != 0 || ok || e != api.OK {
		t.Error(plan, ok, e)
	}
}

func spare(shifts []int, jobs []api.Job, from, to int) int {
	n := 0
	for day := from; day <= to; day++ {
		n += shifts[day]
	}
	for _, j := range jobs {
		if from <= j.Ready && j.Due <= to {
			n -= j.Work
		}
	}
	return n
}

func window(shifts []int, jobs []api.Job) (from, to int, found bool) {
	for from := range shifts {
		for to := from; to < len(shifts); to++ {
			if spare(shifts, jobs, from, to) < 0 {
				return from, to, true
			}
		}
	}
	return 0, 0, false
}

func TestP7_7(t *testing.T) {
	r := rand.New(rand.NewSource(80))
	for range 3000 {
		shifts, jobs := someJobs(r)
		for from := -1; from <= len(shifts); from++ {
			for to := -1; to <= len(shifts); to++ {
				n, e := plot.Spare(shifts, jobs, from, to)
				ok, e2 := plot.IsProof(shifts, jobs, from, to)
				if from < 0 || to < from || to >= len(shifts) {
					if n != 0 || ok || e != api.ErrArg || e2 != api.ErrArg {
						t.Fatal(shifts, jobs, from, to, n, ok, e, e2)
					}
					continue
				}
				want := spare(shifts, jobs, from, to)
				if n != want || ok != (want < 0) || e != api.OK || e2 != api.OK {
					t.Fatal(shifts, jobs, from, to, n, ok, e, e2)
				}
			}
		}
		from, to, found := window(shifts, jobs)
		if x, y, ok, e := plot.Proof(shifts, jobs); x != from || y != to || ok != found || e != api.OK {
			t.Fatal(shifts, jobs, x, y, ok, e)
		}
	}
	for i, x := range []struct {
		shifts   []int
		jobs     []api.Job
		from, to int
		found    bool
	}{
		{[]int{200, 200, 200, 200}, []api.Job{job(500, 2, 3)}, 2, 3, true}, {[]int{150, 500}, []api.Job{job(100, 0, 0), job(100, 0, 0)}, 0, 0, true}, {[]int{150, 50}, []api.Job{job(100, 0, 1), job(100, 0, 1)}, 0, 0, false},
		{nil, nil, 0, 0, false}, {[]int{0}, []api.Job{job(0, 0, 0)}, 0, 0, false}, {[]int{0, 0}, []api.Job{job(1, 1, 1)}, 0, 1, true}, {[]int{1, 0}, []api.Job{job(1, 1, 1)}, 1, 1, true},
	} {
		if from, to, found, e := plot.Proof(x.shifts, x.jobs); from != x.from || to != x.to || found != x.found || e != api.OK {
			t.Errorf("%d: %d, %d, %v, %v", i, from, to, found, e)
		}
	}
	for _, x := range [][2]int{{math.MinInt, 0}, {0, math.MaxInt}, {math.MaxInt, math.MaxInt}, {1, 0}} {
		if n, e := plot.Spare([]int{5, 5}, nil, x[0], x[1]); n != 0 || e != api.ErrArg {
			t.Error(x, n, e)
		}
	}
}
