package plait

import (
	"strings"

	"wigmaker/api"
)

// parser reads a style from the byte at on, within so many parentheses.
type parser struct {
	style     string
	at, depth int
}

// stop is what the parser panics with at what is not a style.
type stop struct{}

// Parse returns the word of a style (P6.5).
func Parse(style string) (word string, e api.Errno) {
	if len(style) > api.MaxText {
		return "", api.ErrLarge
	}
	defer func() {
		if recover() != nil {
			word, e = "", api.ErrSyntax
		}
	}()
	p := parser{style: style}
	word = p.items()
	if p.at < len(style) {
		panic(stop{})
	}
	return checked(word)
}

// items reads items up to a closing parenthesis or the end.
func (p *parser) items() string {
	word := ""
	for p.at < len(p.style) && p.style[p.at] != ')' {
		next := p.item()
		word = short(word + next)
	}
	return word
}

// item reads an item with the signs in front of it.
func (p *parser) item() string {
	switch letter := p.next(); letter {
	case 'a', 'A', 'b', 'B':
		return string(rune(letter))
	case '!':
		return inverse(p.item())
	case '~':
		return mirror(p.item())
	case '%':
		return flip(p.item())
	case '(':
		return p.group()
	}
	panic(stop{})
}

// group reads what follows an opening parenthesis, with the closing one and
// the digit behind it.
func (p *parser) group() string {
	p.depth++
	if p.depth > api.MaxNest {
		panic(stop{})
	}
	word := p.items()
	p.next() // items ends at a closing parenthesis, or at the end of all
	p.depth--
	times := 1
	if p.at < len(p.style) && p.style[p.at] >= '0' && p.style[p.at] <= '9' {
		times = int(p.next() - '0')
	}
	return short(strings.Repeat(word, times))
}

// next reads a byte.
func (p *parser) next() byte {
	if p.at == len(p.style) {
		panic(stop{})
	}
	p.at++
	return p.style[p.at-1]
}

// short cuts a word that is too long behind its first letter too many: it
// stays too long whatever follows, unless it is repeated 0 times.
func short(word string) string {
	return word[:min(len(word), api.MaxWord+1)]
}
