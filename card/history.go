package card

import (
	"strconv"
	"strings"

	"wigmaker/api"
)

// History is what the entries of a card did to a wig (P8.7).
type History struct {
	Cut, Washes, Bleaches int
	Color                 string
}

// maxCut is the most inches that one entry can cut off.
const maxCut = 99

// deed is what an entry does to the history.
type deed interface {
	// fresh reports whether washes are counted anew behind it.
	fresh() bool
}

type cut struct{ inches int }

type wash struct{}

type bleach struct{}

type dye struct{ color string }

func (cut) fresh() bool    { return false }
func (wash) fresh() bool   { return false }
func (bleach) fresh() bool { return true }
func (dye) fresh() bool    { return true }

// deedOf returns the deed of a text; false if it changes nothing.
func deedOf(text string) (deed, bool) {
	word, rest, _ := strings.Cut(text, " ")
	switch {
	case text == "wash":
		return wash{}, true
	case text == "bleach":
		return bleach{}, true
	case word == "dye" && isName(rest):
		return dye{rest}, true
	case word == "cut":
		n, err := strconv.Atoi(rest)
		if err == nil && n >= 1 && n <= maxCut && strconv.Itoa(n) == rest {
			return cut{n}, true
		}
	}
	return nil, false
}

// isName reports whether a text is a valid name.
func isName(text string) bool {
	for i, b := range []byte(text) {
		letter := b >= 'a' && b <= 'z'
		digit := b >= '0' && b <= '9'
		if !letter && (!digit || i == 0) {
			return false
		}
	}
	return len(text) >= 1 && len(text) <= api.MaxName
}

// after returns the history after one more deed.
func (h History) after(d deed) History {
	if d.fresh() {
		h.Washes = 0
	}
	switch d := d.(type) {
	case cut:
		h.Cut += d.inches
	case wash:
		h.Washes++
	case bleach:
		h.Bleaches++
	case dye:
		h.Color = d.color
	}
	return h
}

// Fold returns what the entries of a card did, in the order of Order (P8.7).
func Fold(c []api.Entry) (History, api.Errno) {
	order, e := Order(c)
	if e != api.OK {
		return History{}, e
	}
	var h History
	for _, i := range order {
		if d, ok := deedOf(c[i].Text); ok {
			h = h.after(d)
		}
	}
	return h, api.OK
}
