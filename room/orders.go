package room

import (
	"strconv"
	"strings"

	"wigmaker/api"
)

// The kinds of the words of an order.
const (
	aName = iota
	aNumber
	aStyle
)

// maxNumber is the greatest number of an order.
const maxNumber = 1000000

// order is an order of which the words behind the first have these kinds.
type order struct {
	word  string
	kinds []int
	do    func(s *state, a arguments) api.Errno
}

// arguments are the words of an order behind the first: its names (and style)
// and its numbers, each in their order.
type arguments struct {
	words   []string
	numbers []int
}

// orders returns the table of all orders.
func orders() []order {
	return []order{
		{"buy", []int{aName, aNumber, aNumber, aNumber}, (*state).buy},
		{"mix", []int{aName, aName}, (*state).mix},
		{"draw", []int{aName, aNumber, aName}, (*state).draw},
		{"hackle", []int{aName, aNumber}, (*state).hackle},
		{"turn", []int{aName}, (*state).turn},
		{"snap", []int{aName, aNumber, aNumber, aNumber}, (*state).snap},
		{"wig", []int{aName, aName, aNumber, aNumber}, (*state).begin},
		{"knot", []int{aName, aNumber}, (*state).knot},
		{"bleach", []int{aName}, (*state).bleach},
		{"dye", []int{aName, aNumber, aNumber}, (*state).dye},
		{"plait", []int{aName, aStyle}, (*state).plait},
		{"comb", []int{aName}, (*state).comb},
		{"trim", []int{aName, aNumber}, (*state).trim},
		{"wash", []int{aName}, (*state).wash},
		{"lend", []int{aName}, (*state).lend},
		{"back", []int{aName, aNumber}, (*state).back},
		{"mend", []int{aName, aName, aNumber}, (*state).mend},
		{"sell", []int{aName, aNumber}, (*state).sell},
		{"claim", []int{aName}, (*state).claim},
	}
}

// execute executes an order and puts it into the day book, or changes nothing.
func (s *state) execute(text string) api.Errno {
	o, a, ok := read(text)
	if !ok {
		return api.ErrSyntax
	}
	if len(s.book) == maxOrders {
		return api.ErrLarge
	}
	if e := o.do(s, a); e != api.OK {
		return e
	}
	s.book = append(s.book, text)
	return api.OK
}

// read reads an order.
func read(text string) (order, arguments, bool) {
	if len(text) > api.MaxLine {
		return order{}, arguments{}, false
	}
	words := strings.Split(text, " ")
	for _, o := range orders() {
		if o.word == words[0] {
			a, ok := readArguments(o.kinds, words[1:])
			return o, a, ok
		}
	}
	return order{}, arguments{}, false
}

func readArguments(kinds []int, words []string) (arguments, bool) {
	var a arguments
	if len(words) != len(kinds) {
		return arguments{}, false
	}
	for i, word := range words {
		switch {
		case kinds[i] == aName && isName(word), kinds[i] == aStyle && word != "":
			a.words = append(a.words, word)
		case kinds[i] == aNumber && isNumber(word):
			n, _ := strconv.Atoi(word)
			a.numbers = append(a.numbers, n)
		default:
			return arguments{}, false
		}
	}
	return a, true
}

// isName reports whether a word is one of letters and digits; only isNew tells
// whether it is a valid name.
func isName(word string) bool {
	return word != "" && strings.Trim(word, "abcdefghijklmnopqrstuvwxyz0123456789") == ""
}

func isNumber(word string) bool {
	n, err := strconv.Atoi(word)
	return err == nil && n >= 0 && n <= maxNumber && strconv.Itoa(n) == word
}
