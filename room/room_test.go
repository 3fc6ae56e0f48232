package room_test

import (
	"fmt"
	"math/rand"
	"slices"
	"strings"
	"sync"
	"testing"

	"wigmaker/api"
	"wigmaker/card"
	"wigmaker/hair"
	"wigmaker/room"
)

// do executes an order, and checks that a refused one changes nothing.
func do(t *testing.T, r *room.Room, order string, want api.Errno) {
	t.Helper()
	before := show(r)
	e := r.Do(order)
	if e != want {
		t.Fatalf("%.70q: %v, want %v", order, e, want)
	}
	after := show(r)
	if e != api.OK && after != before {
		t.Fatalf("%.70q is refused and changes %s to %s", order, before, after)
	}
	if e == api.OK && r.Day() != dayOf(before)+order+"\n" {
		t.Fatalf("%.70q: the day book is %q", order, r.Day())
	}
}

// dayOf returns the day book of a text that show wrote.
func dayOf(shown string) string {
	return shown[strings.Index(shown, "day:")+4:]
}

// show writes all that a room has; nil and empty lists are alike.
func show(r *room.Room) string {
	var b strings.Builder
	for _, name := range r.Bundles() {
		hairs, e := r.Bundle(name)
		fmt.Fprintf(&b, "%s %v %v\n", name, hairs, e)
	}
	for _, w := range r.Wigs() {
		one, e := r.Wig(w.Name)
		c, e2 := r.Card(w.Name)
		fmt.Fprintf(&b, "%+v %v %v %v %v\n", w, one == w, e, c, e2)
	}
	fmt.Fprintf(&b, "%d %d %d day:%s", r.Bought(), r.Lost(), r.Cash(), r.Day())
	return b.String()
}

// with returns a room in which orders were executed.
func with(t *testing.T, orders ...string) *room.Room {
	t.Helper()
	r := room.New()
	for _, order := range orders {
		do(t, r, order, api.OK)
	}
	return r
}

// checkBundle checks the hairs of a bundle.
func checkBundle(t *testing.T, r *room.Room, name, want string) {
	t.Helper()
	b, e := r.Bundle(name)
	if e != api.OK {
		t.Fatal(name, e)
	}
	if text, _ := hair.Format(b); text != want {
		t.Errorf("%s: %q, want %q", name, text, want)
	}
}

func checkNumbers(t *testing.T, r *room.Room, bought, lost, cash int) {
	t.Helper()
	if r.Bought() != bought || r.Lost() != lost || r.Cash() != cash {
		t.Errorf("bought %d, lost %d, cash %d, want %d, %d, %d", r.Bought(), r.Lost(), r.Cash(), bought, lost, cash)
	}
	if !r.Audit() {
		t.Error("the audit fails")
	}
}

func checkWig(t *testing.T, r *room.Room, want room.Wig) {
	t.Helper()
	if w, e := r.Wig(want.Name); w != want || e != api.OK {
		t.Errorf("%+v, %v, want %+v", w, e, want)
	}
}

// texts returns the texts on the card of a wig, with their places.
func texts(t *testing.T, r *room.Room, name string) string {
	t.Helper()
	c, e := r.Card(name)
	if e != api.OK || card.Validate(c) != api.OK {
		t.Fatal(name, c, e)
	}
	order, _ := card.Order(c)
	var list []string
	for _, i := range order {
		list = append(list, fmt.Sprint(c[i].Place, " ", c[i].Text))
	}
	return strings.Join(list, ", ")
}

func repeat(order string, n int) []string {
	return slices.Repeat([]string{order}, n)
}

func TestP9_1Syntax(t *testing.T) {
	full := with(t, "buy a 10 100 240", "buy b 12 50 1", "wig w a 60 8", "knot w 60", "wig v a 5 5")
	for _, order := range []string{
		"", " ", "  ", "buy", "buy ", "buy c", "buy c 10 5", "buy c 10 5 5 5", "buy c  10 5 5", " buy c 10 5 5", "buy c 10 5 5 ", "buy c 10 5 5\n", "buy c 10\t5 5", "Buy c 10 5 5", "buy C 10 5 5", "buy c! 10 5 5", "buy ä 10 5 5", "buy c_ 10 5 5",
		"buy c x 5 5", "buy c 10 x 5", "buy c 10 5 x", "buy c 010 5 5", "buy c +10 5 5", "buy c -10 5 5", "buy c 10 -0 5", "buy c 10 5 1000001", "buy c 10 1000001 5", "buy c 1000001 5 5", "buy c 10 5 99999999999999999999", "buy c 1e1 5 5", "buy c 10 5 5.0", "buy 10 c 5 5",
		"mix a", "mix a b c", "mix a B", "mix  a b", "mix a  b", "mix A b", "draw a c 5", "draw a 5", "draw a 5 c c", "draw a 5 C", "draw a -5 c", "hackle a", "hackle a x", "hackle a 5 5", "hackle A 5", "turn", "turn a b", "turn A", "turn a ", "snap a 10 5", "snap a 10 5 1 1", "snap a 10 5 x",
		"snap a 10 x 1", "snap a x 5 1", "snap A 10 5 1", "wig u a 5", "wig u a 5 5 5", "wig u a x 5", "wig u a 5 x", "wig U a 5 5", "wig u A 5 5", "knot w", "knot w x", "knot w 1 1", "knot W 1", "bleach", "bleach w 1", "bleach W", "dye w", "dye w 3", "dye w 3 2 1", "dye w x 2", "dye w 3 x", "dye W 3 2",
		"plait w", "plait w ", "plait w a b", "plait W a", "plait  a", "comb", "comb w a", "comb W", "trim w", "trim w x", "trim w 1 1", "trim W 1", "wash", "wash w w", "wash W", "lend", "lend w w", "lend W", "back w", "back w x", "back w 1 1", "back W 1", "mend w a", "mend w 1", "mend w a x", "mend w A 1", "mend W a 1", "mend w a 1 1",
		"sell w", "sell w x", "sell w 1 1", "sell W 1", "claim", "claim w w", "claim W", "burn w", "new", "audit", "buya 1 1 1", "mix a\nb", "turn a\n", "turn\na", "turn a\x00", "turn ａ", "turn a{", "turn `", "turn a/", "turn a:", strings.Repeat("x", 60),
		"lend " + strings.Repeat("w", 56), "plait w " + strings.Repeat("a", 53), strings.Repeat("\n", 60), "lend w" + strings.Repeat(" ", 54),
	} {
		do(t, room.New(), order, api.ErrSyntax)
		do(t, full, order, api.ErrSyntax)
	}
	// These are orders, if not for this room.
	for order, want := range map[string]api.Errno{
		"buy 1a 10 5 5": api.ErrName, "buy a23456789 10 5 5": api.ErrName, "mix 0 0": api.ErrNone, "turn 0123456789": api.ErrNone, "lend " + strings.Repeat("w", 55): api.ErrNone, "plait w " + strings.Repeat("a", 52): api.ErrNone, "plait w x": api.ErrNone, "plait w ä": api.ErrNone,
		"hackle a 1000000": api.ErrNone, "sell w 0": api.ErrNone, "draw a 0 0": api.ErrNone, "buy a 0 0 0": api.ErrArg, "buy a 1000000 1000000 1000000": api.ErrArg, "mend w a 0": api.ErrNone, "plait w \x00": api.ErrNone, "back z 0": api.ErrNone, "wig z z 0 0": api.ErrNone, "wig 0 z 0 0": api.ErrName,
	} {
		do(t, room.New(), order, want)
	}
	do(t, full, "plait w a\nb", api.ErrSyntax)
	do(t, full, "plait w x", api.ErrSyntax)
	do(t, full, "plait w \xff", api.ErrSyntax)
	do(t, full, "buy z9 24 1000000 1000000", api.OK)
}

func TestP9_1Full(t *testing.T) {
	r := with(t, "buy a 10 100 240")
	for range 10 {
		do(t, r, "turn b", api.ErrNone)
	}
	for range 299 {
		if e := r.Do("turn a"); e != api.OK {
			t.Fatal(e)
		}
	}
	do(t, r, "turn a", api.ErrLarge)
	do(t, r, "turn b", api.ErrLarge)
	do(t, r, "buy a 0 0 0", api.ErrLarge)
	do(t, r, "turn A", api.ErrSyntax)
	if strings.Count(r.Day(), "\n") != 300 || !r.Audit() {
		t.Error(r.Day())
	}
	if again, n, e := room.Replay(r.Day()); n != 300 || e != api.OK || show(again) != show(r) {
		t.Error(n, e)
	}
	if again, n, e := room.Replay(r.Day() + "turn a\n"); n != 300 || e != api.ErrLarge || again != nil {
		t.Error(n, e)
	}
}

func TestP9_2Buy(t *testing.T) {
	r := with(t, "buy a 10 100 240", "buy b 24 1000000 1000000", "buy c 1 1 0")
	checkBundle(t, r, "a", "hair 0 0 0 0 0 0 0 0 0 100 wrong")
	checkBundle(t, r, "b", "hair"+strings.Repeat(" 0", 23)+" 1000000 wrong")
	checkBundle(t, r, "c", "hair 1 wrong")
	checkNumbers(t, r, 1000101, 0, -1000240)
	do(t, r, "buy a 10 5 5", api.ErrName)
	do(t, r, "buy a 0 0 5", api.ErrName)
	do(t, r, "buy 9 0 0 5", api.ErrName)
	do(t, r, "buy a12345678 5 5 5", api.ErrName)
	do(t, r, "buy d 0 5 5", api.ErrArg)
	do(t, r, "buy d 25 5 5", api.ErrArg)
	do(t, r, "buy d 5 0 5", api.ErrArg)
	for i := range 9 {
		do(t, r, fmt.Sprint("buy abcdefg", i, " 5 5 5"), api.OK)
	}
	do(t, r, "buy d 5 5 5", api.ErrLarge)
	do(t, r, "buy d 5 0 5", api.ErrArg)
	do(t, r, "buy a 5 5 5", api.ErrName)
	do(t, r, "mix a c", api.OK)
	do(t, r, "buy c 5 5 5", api.ErrName)
	do(t, r, "buy d 5 5 5", api.OK)
	if names := r.Bundles(); strings.Join(names, " ") != "a b abcdefg0 abcdefg1 abcdefg2 abcdefg3 abcdefg4 abcdefg5 abcdefg6 abcdefg7 abcdefg8 d" {
		t.Error(names)
	}
}

func TestP9_2Mix(t *testing.T) {
	r := with(t, "buy a 10 100 240", "buy b 3 7 10", "buy c 3 1000000 10", "buy d 2 5 0")
	do(t, r, "mix a x", api.ErrNone)
	do(t, r, "mix x a", api.ErrNone)
	do(t, r, "mix x x", api.ErrNone)
	do(t, r, "mix a a", api.ErrArg)
	do(t, r, "mix b c", api.ErrLarge)
	do(t, r, "mix d a", api.OK)
	checkBundle(t, r, "d", "hair 0 5 0 0 0 0 0 0 0 100 wrong")
	if _, e := r.Bundle("a"); e != api.ErrNone {
		t.Error(e)
	}
	do(t, r, "mix a d", api.ErrNone)
	do(t, r, "mix d a", api.ErrNone)
	do(t, r, "mix b d", api.OK)
	checkBundle(t, r, "b", "hair 0 5 7 0 0 0 0 0 0 100 wrong")
	if names := r.Bundles(); strings.Join(names, " ") != "b c" {
		t.Error(names)
	}
	checkNumbers(t, r, 1000112, 0, -260)
}

func TestP9_2Draw(t *testing.T) {
	r := with(t, "buy a 9 2 0", "buy b 7 4 0", "mix a b")
	do(t, r, "draw a 3 c", api.OK)
	checkBundle(t, r, "c", "hair 0 0 0 0 0 0 1 0 2 wrong")
	checkBundle(t, r, "a", "hair 0 0 0 0 0 0 3 wrong")
	do(t, r, "draw x 3 1", api.ErrNone)
	do(t, r, "draw b 3 a", api.ErrNone)
	do(t, r, "draw a 9 a", api.ErrName)
	do(t, r, "draw a 9 b", api.ErrName)
	do(t, r, "draw a 9 c", api.ErrName)
	do(t, r, "draw a 9 1d", api.ErrName)
	do(t, r, "draw a 9 d23456789", api.ErrName)
	do(t, r, "draw a 4 d", api.ErrShort)
	do(t, r, "draw a 3 d", api.OK)
	checkBundle(t, r, "a", "hair wrong")
	do(t, r, "draw a 0 e", api.OK)
	checkBundle(t, r, "e", "hair wrong")
	for i := range 8 {
		do(t, r, fmt.Sprint("draw c 0 n", i), api.OK)
	}
	do(t, r, "draw c 9 m", api.ErrLarge)
	do(t, r, "draw c 9 n1", api.ErrName)
	do(t, r, "draw y 9 m", api.ErrNone)
	checkNumbers(t, r, 6, 0, 0)
}

func TestP9_2Bundles(t *testing.T) {
	r := with(t, "buy a 10 100 0", "buy b 3 7 0", "buy c 9 5 0", "mix a b", "mix a c")
	do(t, r, "hackle x 0", api.ErrNone)
	do(t, r, "hackle a 0", api.ErrArg)
	do(t, r, "hackle a 26", api.ErrArg)
	do(t, r, "hackle a 9", api.OK)
	checkBundle(t, r, "a", "hair 0 0 0 0 0 0 0 0 5 100 wrong")
	checkNumbers(t, r, 112, 7, 0)
	do(t, r, "snap x 0 0 0", api.ErrNone)
	do(t, r, "snap a 1 1 1", api.ErrArg)
	do(t, r, "snap a 10 10 1", api.ErrArg)
	do(t, r, "snap a 10 4 101", api.ErrShort)
	do(t, r, "snap a 10 4 30", api.OK)
	checkBundle(t, r, "a", "hair 0 0 0 30 0 30 0 0 5 70 wrong")
	checkNumbers(t, r, 142, 7, 0)
	do(t, r, "turn x", api.ErrNone)
	do(t, r, "turn a", api.OK)
	checkBundle(t, r, "a", "hair 0 0 0 30 0 30 0 0 5 70 wrong")
	do(t, r, "hackle a 25", api.OK)
	checkBundle(t, r, "a", "hair wrong")
	checkNumbers(t, r, 142, 142, 0)
	large := with(t, "buy a 10 600000 0", "buy b 5 1 0", "mix a b")
	do(t, large, "snap a 10 5 600000", api.ErrLarge)
	do(t, large, "snap a 10 5 500000", api.ErrLarge)
	do(t, large, "snap a 10 5 499999", api.OK)
	checkNumbers(t, large, 1100000, 0, 0)
}

func TestP9_3Begin(t *testing.T) {
	r := with(t, "buy a 10 100 240", "buy b 7 3 0", "mix a b")
	do(t, r, "wig w a 60 8", api.OK)
	checkWig(t, r, room.Wig{Name: "w", Bundle: "a", Hairs: 60, Length: 8, Shade: api.Shade{Level: 5}, State: room.InWork})
	checkBundle(t, r, "a", "hair 0 0 0 0 0 0 3 0 0 40 wrong")
	if c, e := r.Card("w"); len(c) != 0 || e != api.OK {
		t.Error(c, e)
	}
	checkNumbers(t, r, 103, 0, -240)
	do(t, r, "wig v a 4 7", api.OK)
	checkBundle(t, r, "a", "hair 0 0 0 0 0 0 0 0 0 39 wrong")
	do(t, r, "wig a x 0 0", api.ErrName)
	do(t, r, "wig b x 0 0", api.ErrName)
	do(t, r, "wig w x 0 0", api.ErrName)
	do(t, r, "wig 5 x 0 0", api.ErrName)
	do(t, r, "wig w23456789 x 0 0", api.ErrName)
	do(t, r, "wig u x 0 0", api.ErrNone)
	do(t, r, "wig u w 0 0", api.ErrNone)
	do(t, r, "wig u a 0 5", api.ErrArg)
	do(t, r, "wig u a 5 0", api.ErrArg)
	do(t, r, "wig u a 5 25", api.ErrArg)
	do(t, r, "wig u a 40 10", api.ErrShort)
	do(t, r, "wig u a 1 11", api.ErrShort)
	do(t, r, "buy w 5 5 5", api.ErrName)
	do(t, r, "draw a 1 w", api.ErrName)
	do(t, r, "mix w a", api.ErrNone)
	do(t, r, "knot a 1", api.ErrNone)
	for i := range 10 {
		do(t, r, fmt.Sprint("wig u", i, " a 1 ", 10-i), api.OK)
	}
	do(t, r, "wig t a 100 1", api.ErrLarge)
	do(t, r, "wig t a 100 25", api.ErrArg)
	do(t, r, "wig t x 100 25", api.ErrNone)
	var names []string
	for _, w := range r.Wigs() {
		names = append(names, w.Name)
	}
	if strings.Join(names, " ") != "w v u0 u1 u2 u3 u4 u5 u6 u7 u8 u9" {
		t.Error(names)
	}
	checkNumbers(t, r, 103, 0, -240)
	most := with(t, "buy a 24 1000000 5", "wig w a 1000000 24", "knot w 1000000")
	checkWig(t, most, room.Wig{Name: "w", Bundle: "a", Hairs: 1000000, Done: 1000000, Length: 24, Shade: api.Shade{Level: 5}, State: room.Ready})
}

func TestP9_3Knot(t *testing.T) {
	r := with(t, "buy a 10 100 240", "wig w a 60 8", "knot w 0", "knot w 20")
	want := room.Wig{Name: "w", Bundle: "a", Hairs: 60, Done: 20, Length: 8, Shade: api.Shade{Level: 5}}
	checkWig(t, r, want)
	do(t, r, "knot v 99", api.ErrNone)
	do(t, r, "knot w 41", api.ErrShort)
	for _, order := range []string{"bleach w", "dye w 99 99", "plait w x", "comb w", "trim w 0", "wash w", "lend w", "back w 99", "mend w x 99", "sell w 5", "claim w"} {
		do(t, r, order, api.ErrState)
	}
	do(t, r, "knot w 39", api.OK)
	do(t, r, "knot w 2", api.ErrShort)
	do(t, r, "knot w 1", api.OK)
	want.Done, want.State = 60, room.Ready
	checkWig(t, r, want)
	do(t, r, "knot w 0", api.ErrState)
	do(t, r, "knot w 1", api.ErrState)
	if room.InWork != 0 || room.Ready != 1 || room.Lent != 2 || room.Sold != 3 {
		t.Error("the states have other numbers")
	}
}

func TestP9_3Works(t *testing.T) {
	r := with(t, "buy a 10 100 240", "wig v a 10 9", "wig w a 60 8", "knot w 60")
	for _, order := range []string{"bleach x", "dye x 99 99", "plait x x", "comb x", "trim x 0", "wash x", "bleach a", "comb a"} {
		do(t, r, order, api.ErrNone)
	}
	want := room.Wig{Name: "w", Bundle: "a", Hairs: 60, Done: 60, Length: 8, Shade: api.Shade{Level: 5}, State: room.Ready}
	do(t, r, "wash w", api.OK)
	checkWig(t, r, want)
	do(t, r, "bleach w", api.OK)
	want.Shade = api.Shade{Level: 7, Bleached: 1}
	checkWig(t, r, want)
	do(t, r, "dye w 6 3", api.OK)
	want.Shade = api.Shade{Level: 6, Tone: 3, Bleached: 1}
	checkWig(t, r, want)
	do(t, r, "dye w 7 3", api.ErrRule)
	do(t, r, "dye w 0 3", api.ErrArg)
	do(t, r, "dye w 5 6", api.ErrArg)
	do(t, r, "bleach w", api.OK)
	do(t, r, "bleach w", api.OK)
	do(t, r, "bleach w", api.ErrRule)
	want.Shade = api.Shade{Level: 10, Bleached: 3}
	checkWig(t, r, want)
	do(t, r, "dye w 10 5", api.OK)
	do(t, r, "plait w (aB)3", api.OK)
	do(t, r, "plait w !a", api.OK)
	want.Shade, want.Plait = api.Shade{Level: 10, Tone: 5, Bleached: 3}, "aBaBaBA"
	checkWig(t, r, want)
	do(t, r, "plait w (a", api.ErrSyntax)
	do(t, r, "plait w "+strings.Repeat("a", 52), api.OK)
	want.Plait += strings.Repeat("a", 52)
	checkWig(t, r, want)
	do(t, r, "plait w ab", api.ErrLarge)
	do(t, r, "plait w ((a)9)9", api.ErrLarge)
	do(t, r, "plait w (a)x", api.ErrSyntax)
	do(t, r, "comb w", api.OK)
	want.Plait = ""
	checkWig(t, r, want)
	do(t, r, "trim w 0", api.ErrArg)
	do(t, r, "trim w 8", api.ErrArg)
	do(t, r, "trim w 9", api.ErrArg)
	do(t, r, "trim w 3", api.OK)
	do(t, r, "trim w 5", api.ErrArg)
	do(t, r, "trim w 4", api.OK)
	want.Length = 1
	checkWig(t, r, want)
	do(t, r, "trim w 1", api.ErrArg)
	if got := texts(t, r, "w"); got != "0 wash, 0 bleach, 0 dye c6x3, 0 bleach, 0 bleach, 0 dye c10x5, 0 plait (aB)3, 0 plait !a, 0 plait "+strings.Repeat("a", 52)+", 0 comb, 0 cut 3, 0 cut 4" {
		t.Error(got)
	}
	c, _ := r.Card("w")
	if h, e := card.Fold(c); h != (card.History{Cut: 7, Washes: 0, Bleaches: 3, Color: "c10x5"}) || e != api.OK {
		t.Error(h, e)
	}
	checkNumbers(t, r, 100, 0, -240)
}

// TestP9_3FullCard has a wig with as many entries as a card takes.
func TestP9_3FullCard(t *testing.T) {
	r := with(t, "buy a 10 100 240", "wig w a 60 8", "knot w 60", "lend w", "back w 5")
	for range 59 {
		do(t, r, "wash w", api.OK)
	}
	for _, order := range []string{"wash w", "bleach w", "dye w 3 3", "plait w a", "comb w", "trim w 1", "mend w a 1"} {
		do(t, r, order, api.ErrLarge)
	}
	for order, want := range map[string]api.Errno{
		"dye w 9 3": api.ErrRule, "dye w 99 3": api.ErrArg, "plait w (": api.ErrSyntax, "trim w 9": api.ErrArg, "mend w x 1": api.ErrNone, "mend w a 6": api.ErrShort, "sell w 5": api.ErrState, "knot w 5": api.ErrState,
	} {
		do(t, r, order, want)
	}
	do(t, r, "hackle a 25", api.OK)
	do(t, r, "mend w a 1", api.ErrShort)
	do(t, r, "lend w", api.OK)
	do(t, r, "back w 1", api.ErrLarge)
	do(t, r, "back w 56", api.ErrShort)
	do(t, r, "wash w", api.ErrState)
	checkNumbers(t, r, 100, 45, -240)
}

func TestP9_4Lend(t *testing.T) {
	r := with(t, "buy a 10 100 240", "wig w a 60 8", "knot w 60")
	want := room.Wig{Name: "w", Bundle: "a", Hairs: 60, Done: 60, Length: 8, Shade: api.Shade{Level: 5}, State: room.Ready}
	for _, order := range []string{"lend x", "back x 99", "mend x x 99", "sell x 5", "claim x", "lend a"} {
		do(t, r, order, api.ErrNone)
	}
	do(t, r, "back w 99", api.ErrState)
	do(t, r, "claim w", api.ErrState)
	do(t, r, "lend w", api.OK)
	want.State = room.Lent
	checkWig(t, r, want)
	for _, order := range []string{"lend w", "mend w x 99", "sell w 5", "claim w", "knot w 1", "wash w", "bleach w", "dye w 99 9", "plait w x", "comb w", "trim w 0"} {
		do(t, r, order, api.ErrState)
	}
	do(t, r, "back w 61", api.ErrShort)
	do(t, r, "back w 5", api.OK)
	want.State, want.Shed = room.Ready, 5
	checkWig(t, r, want)
	checkNumbers(t, r, 100, 5, -240)
	do(t, r, "back w 5", api.ErrState)
	do(t, r, "lend w", api.OK)
	do(t, r, "back w 56", api.ErrShort)
	do(t, r, "back w 0", api.OK)
	do(t, r, "lend w", api.OK)
	do(t, r, "back w 55", api.OK)
	want.Shed = 60
	checkWig(t, r, want)
	checkNumbers(t, r, 100, 60, -240)
	if got := texts(t, r, "w"); got != "1 shed 5, 1 shed 0, 1 shed 55" {
		t.Error(got)
	}
}

func TestP9_4Mend(t *testing.T) {
	r := with(t, "buy a 10 100 240", "buy b 7 10 0", "wig w a 60 8", "knot w 60", "trim w 1", "lend w", "back w 15")
	want := room.Wig{Name: "w", Bundle: "a", Hairs: 60, Done: 60, Shed: 15, Length: 7, Shade: api.Shade{Level: 5}, State: room.Ready}
	do(t, r, "mend w x 99", api.ErrNone)
	do(t, r, "mend w w 1", api.ErrNone)
	do(t, r, "mend w b 16", api.ErrShort)
	do(t, r, "mend w b 11", api.ErrShort)
	do(t, r, "mend w b 9", api.OK)
	want.Shed = 6
	checkWig(t, r, want)
	checkBundle(t, r, "b", "hair 0 0 0 0 0 0 1 wrong")
	do(t, r, "mend w a 5", api.OK)
	checkBundle(t, r, "a", "hair 0 0 0 0 0 0 0 0 0 35 wrong")
	checkNumbers(t, r, 110, 15, -240)
	do(t, r, "mend w a 0", api.OK)
	do(t, r, "sell w 5", api.ErrState)
	do(t, r, "mend w a 2", api.ErrShort)
	do(t, r, "mend w b 1", api.OK)
	want.Shed = 0
	checkWig(t, r, want)
	checkBundle(t, r, "b", "hair wrong")
	do(t, r, "mend w b 0", api.OK)
	if got := texts(t, r, "w"); got != "0 cut 1, 1 shed 15, 0 mend 9, 0 mend 5, 0 mend 0, 0 mend 1, 0 mend 0" {
		t.Error(got)
	}
	checkNumbers(t, r, 110, 15, -240)
}

func TestP9_4Sell(t *testing.T) {
	r := with(t, "buy a 10 100 240", "wig w a 60 8", "knot w 60", "sell w 2000")
	want := room.Wig{Name: "w", Bundle: "a", Hairs: 60, Done: 60, Length: 8, Shade: api.Shade{Level: 5}, State: room.Sold, Price: 2000}
	checkWig(t, r, want)
	checkNumbers(t, r, 100, 0, 1760)
	do(t, r, "claim w", api.ErrClaim)
	for _, order := range []string{"lend w", "back w 99", "mend w x 99", "sell w 5", "knot w 1", "wash w", "bleach w", "dye w 99 9", "plait w x", "comb w", "trim w 0"} {
		do(t, r, order, api.ErrState)
	}
	// One entry of the theatre and none of the workroom: the claim is right.
	r = with(t, "buy a 10 100 240", "wig w a 60 8", "knot w 60", "lend w", "back w 0", "sell w 300")
	checkNumbers(t, r, 100, 0, 60)
	do(t, r, "claim w", api.OK)
	want.State, want.Price = room.Ready, 0
	checkWig(t, r, want)
	checkNumbers(t, r, 100, 0, -240)
	do(t, r, "claim w", api.ErrState)
	// As many entries of the workroom: it is not.
	do(t, r, "wash w", api.OK)
	do(t, r, "sell w 7", api.OK)
	do(t, r, "claim w", api.ErrClaim)
	want.State, want.Price = room.Sold, 7
	checkWig(t, r, want)
	checkNumbers(t, r, 100, 0, -233)
	if got := texts(t, r, "w"); got != "1 shed 0, 0 wash" {
		t.Error(got)
	}
	// The example of the chapter.
	r = with(t, "buy a 10 100 240", "wig w a 60 8", "knot w 60", "lend w", "back w 5")
	do(t, r, "sell w 2000", api.ErrState)
	do(t, r, "mend w a 5", api.OK)
	do(t, r, "sell w 2000", api.OK)
	do(t, r, "claim w", api.ErrClaim)
	checkNumbers(t, r, 100, 5, 1760)
	// Two of the theatre and one of the workroom.
	r = with(t, "buy a 10 100 0", "wig w a 60 8", "knot w 60", "lend w", "back w 3", "lend w", "back w 2", "mend w a 5", "sell w 0", "claim w", "sell w 1", "claim w")
	checkNumbers(t, r, 100, 5, 0)
}

func TestP9_5(t *testing.T) {
	r := with(t, "buy a 10 100 240", "buy b 7 10 0", "wig w a 60 8", "wig v b 1 1", "knot w 60", "wash w")
	for _, name := range []string{"", "x", "w", "A", "a "} {
		if b, e := r.Bundle(name); e != api.ErrNone || len(b.Right)+len(b.Wrong) != 0 {
			t.Error(name, b, e)
		}
	}
	for _, name := range []string{"", "x", "a", "W", "w "} {
		if w, e := r.Wig(name); e != api.ErrNone || w != (room.Wig{}) {
			t.Error(name, w, e)
		}
		if c, e := r.Card(name); e != api.ErrNone || len(c) != 0 {
			t.Error(name, c, e)
		}
	}
	if day := r.Day(); day != "buy a 10 100 240\nbuy b 7 10 0\nwig w a 60 8\nwig v b 1 1\nknot w 60\nwash w\n" {
		t.Errorf("%q", day)
	}
	// Results are new memory.
	before := show(r)
	b, _ := r.Bundle("a")
	b.Right[9] = 7
	c, _ := r.Card("w")
	c[0].Text = "changed"
	r.Wigs()[0].Name = "changed"
	r.Bundles()[0] = "changed"
	if show(r) != before {
		t.Error("memory is shared")
	}
	fresh := room.New()
	if show(fresh) != "0 0 0 day:" || !fresh.Audit() {
		t.Error(show(fresh))
	}
	var zero room.Room
	do(t, &zero, "buy a 10 100 240", api.OK)
	checkNumbers(t, &zero, 100, 0, -240)
}

func TestP9_5Nil(t *testing.T) {
	var r *room.Room
	if e := r.Do("buy a 10 100 240"); e != api.ErrArg {
		t.Error(e)
	}
	if e := r.Do(""); e != api.ErrArg {
		t.Error(e)
	}
	if b, e := r.Bundle("a"); e != api.ErrArg || len(b.Right)+len(b.Wrong) != 0 {
		t.Error(b, e)
	}
	if w, e := r.Wig("a"); e != api.ErrArg || w != (room.Wig{}) {
		t.Error(w, e)
	}
	if c, e := r.Card("a"); e != api.ErrArg || len(c) != 0 {
		t.Error(c, e)
	}
	if len(r.Bundles())+len(r.Wigs())+r.Bought()+r.Lost()+r.Cash()+len(r.Day()) != 0 || r.Audit() {
		t.Error("a nil room has something")
	}
}

func TestP9_6Replay(t *testing.T) {
	good := "buy a 10 100 240\nwig w a 60 8\n"
	for i, x := range []struct {
		day  string
		n    int
		want api.Errno
	}{
		{"", 0, api.OK}, {good, 2, api.OK}, {"\n", 0, api.ErrSyntax}, {good + "\n", 2, api.ErrSyntax}, {good + "knot w 60", 0, api.ErrSyntax}, {"x", 0, api.ErrSyntax}, {good + "knot w 61\n" + "x\n", 2, api.ErrShort}, {good + good, 2, api.ErrName},
		{"turn a\n" + good, 0, api.ErrNone}, {good + "x\nturn b\n", 2, api.ErrSyntax}, {"\n" + good, 0, api.ErrSyntax}, {good + "turn a \n", 2, api.ErrSyntax}, {good + "turn b", 0, api.ErrSyntax}, {good + "turn a\r\n", 2, api.ErrSyntax}, {"x\ny", 0, api.ErrSyntax},
		{good + "turn b\nknot w 1", 0, api.ErrSyntax},
	} {
		r, n, e := room.Replay(x.day)
		if n != x.n || e != x.want || (r != nil) != (e == api.OK) {
			t.Errorf("%d: %d, %v", i, n, e)
		}
		if e == api.OK && (r.Day() != x.day || !r.Audit()) {
			t.Errorf("%d: %q", i, r.Day())
		}
	}
}

func TestP9_6Run(t *testing.T) {
	errors, day, e := room.Run([]string{"buy a 10 100 240", "turn b", "", "wig w a 60 8", "knot w 61", "knot w 60"})
	if e != api.OK || !slices.Equal(errors, []api.Errno{api.OK, api.ErrNone, api.ErrSyntax, api.OK, api.ErrShort, api.OK}) || day != "buy a 10 100 240\nwig w a 60 8\nknot w 60\n" {
		t.Error(errors, day, e)
	}
	if errors, day, e := room.Run(nil); len(errors) != 0 || day != "" || e != api.OK {
		t.Error(errors, day, e)
	}
	many := append([]string{"buy a 10 100 240"}, repeat("turn a", 299)...)
	if errors, day, e := room.Run(many); len(errors) != 300 || strings.Count(day, "\n") != 300 || e != api.OK {
		t.Error(len(errors), e)
	}
	if errors, day, e := room.Run(append(many, "")); len(errors) != 0 || day != "" || e != api.ErrLarge {
		t.Error(len(errors), day, e)
	}
}

// someOrder makes an order from few names, so that many are accepted.
func someOrder(r *rand.Rand) string {
	names := []string{"a", "b", "c", "d", "w", "v", "u"}
	name := func() string { return names[r.Intn(len(names))] }
	wig := func() string { return names[4+r.Intn(3)] }
	bundle := func() string { return names[r.Intn(4)] }
	n := func(most int) int { return r.Intn(most + 1) }
	switch r.Intn(30) {
	case 0, 1:
		return fmt.Sprint("buy ", bundle(), " ", n(24), " ", n(40), " ", n(99))
	case 2:
		return fmt.Sprint("mix ", bundle(), " ", bundle())
	case 3:
		return fmt.Sprint("draw ", bundle(), " ", n(9), " ", name())
	case 4:
		return fmt.Sprint("hackle ", bundle(), " ", n(9))
	case 5:
		return fmt.Sprint("turn ", name())
	case 6:
		return fmt.Sprint("snap ", bundle(), " ", n(24), " ", n(9), " ", n(3))
	case 7, 8:
		return fmt.Sprint("wig ", wig(), " ", bundle(), " ", n(6), " ", n(12))
	case 9, 10, 11:
		return fmt.Sprint("knot ", wig(), " ", n(4))
	case 12:
		return fmt.Sprint("bleach ", wig())
	case 13:
		return fmt.Sprint("dye ", wig(), " ", n(10), " ", n(6))
	case 14:
		return fmt.Sprint("plait ", wig(), " ", []string{"a", "(aB)3", "!b", "(", "((ab)9)9"}[r.Intn(5)])
	case 15:
		return fmt.Sprint("comb ", wig())
	case 16:
		return fmt.Sprint("trim ", wig(), " ", n(4))
	case 17:
		return fmt.Sprint("wash ", wig())
	case 18, 19, 20:
		return fmt.Sprint("lend ", wig())
	case 21, 22, 23:
		return fmt.Sprint("back ", wig(), " ", n(1))
	case 24, 25:
		return fmt.Sprint("mend ", wig(), " ", bundle(), " ", n(3))
	case 26:
		return fmt.Sprint("sell ", wig(), " ", n(500))
	}
	return fmt.Sprint("claim ", wig())
}

// balance checks what P9.5 says of the hairs, and the cards.
func balance(t *testing.T, r *room.Room) {
	t.Helper()
	sum := r.Lost()
	for _, name := range r.Bundles() {
		b, _ := r.Bundle(name)
		n, e := hair.Count(b)
		if e != api.OK {
			t.Fatal(name, b, e)
		}
		sum += n
	}
	for _, w := range r.Wigs() {
		sum += w.Hairs - w.Shed
		c, _ := r.Card(w.Name)
		if e := card.Validate(c); e != api.OK {
			t.Fatal(w, c, e)
		}
	}
	if sum != r.Bought() {
		t.Fatalf("%d hairs of %d in %s", sum, r.Bought(), show(r))
	}
}

func TestP9_6Random(t *testing.T) {
	random := rand.New(rand.NewSource(96))
	accepted := map[string]int{}
	for range 60 {
		r := room.New()
		var orders []string
		var want []api.Errno
		var shown []string
		for range 300 {
			order := someOrder(random)
			before := show(r)
			e := r.Do(order)
			orders, want = append(orders, order), append(want, e)
			if e == api.OK {
				word, _, _ := strings.Cut(order, " ")
				accepted[word]++
				shown = append(shown, show(r))
			} else if show(r) != before {
				t.Fatal(order, e)
			}
			balance(t, r)
		}
		if !r.Audit() {
			t.Fatal("the audit fails", show(r))
		}
		errors, day, e := room.Run(orders)
		if e != api.OK || day != r.Day() || !slices.Equal(errors, want) {
			t.Fatal(orders, errors, e)
		}
		// The first lines of the day book make what the room was after them.
		lines := strings.SplitAfter(day, "\n")
		for i, want := range shown {
			again, n, e := room.Replay(strings.Join(lines[:i+1], ""))
			if n != i+1 || e != api.OK || show(again) != want {
				t.Fatal(i, n, e)
			}
		}
	}
	for _, word := range strings.Split("buy mix draw hackle turn snap wig knot bleach dye plait comb trim wash lend back mend sell claim", " ") {
		if accepted[word] == 0 {
			t.Error("never accepted:", word)
		}
	}
}

// TestGoroutines has several goroutines in one room.
func TestGoroutines(t *testing.T) {
	r := with(t, "buy a 10 1000 0", "wig w a 300 8")
	var group sync.WaitGroup
	for i := range 8 {
		group.Add(1)
		go func() {
			defer group.Done()
			for range 30 {
				r.Do("knot w 1")
				r.Do(fmt.Sprint("draw a 1 n", i))
				r.Bundles()
				r.Bundle("a")
				r.Wigs()
				r.Wig("w")
				r.Card("w")
				r.Day()
				if r.Bought() != 1000 || r.Lost() != 0 || r.Cash() != 0 {
					t.Error("other numbers")
				}
			}
			if !r.Audit() {
				t.Error("the audit fails")
			}
		}()
	}
	group.Wait()
	if w, _ := r.Wig("w"); w.Done != 240 {
		t.Error(w)
	}
	if len(r.Bundles()) != 9 || strings.Count(r.Day(), "\n") != 250 || !r.Audit() {
		t.Error(r.Bundles(), r.Day())
	}
}
