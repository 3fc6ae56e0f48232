package flow

import (
	"strconv"
	"strings"

	"wigmaker/api"
)

// Format writes a field as a text (P3.8).
func Format(f api.Field) (string, api.Errno) {
	if e := Validate(f); e != api.OK {
		return "", e
	}
	text := "flow " + strconv.Itoa(f.W) + " " + strconv.Itoa(f.H) + " "
	for i, d := range f.Dirs {
		if i > 0 && i%f.W == 0 {
			text += "/"
		}
		text += strconv.Itoa(d)
	}
	for _, e := range f.Partings {
		text += " " + strconv.Itoa(e.X) + "," + strconv.Itoa(e.Y) + "," + strconv.Itoa(e.Up)
	}
	return text, api.OK
}

// Parse returns the field whose Format is text (P3.8).
func Parse(text string) (api.Field, api.Errno) {
	if len(text) > api.MaxText {
		return api.Field{}, api.ErrLarge
	}
	f := readField(text)
	// The reader is lenient: only Format decides what a right text is.
	if back, e := Format(f); e != api.OK || back != text {
		return api.Field{}, api.ErrSyntax
	}
	return f, api.OK
}

// readField reads what it understands of a text.
func readField(text string) api.Field {
	words := strings.Split(text, " ")
	if len(words) < 4 {
		return api.Field{}
	}
	var f api.Field
	f.W, _ = strconv.Atoi(words[1])
	f.H, _ = strconv.Atoi(words[2])
	for _, letter := range []byte(words[3]) {
		if letter != '/' {
			f.Dirs = append(f.Dirs, int(letter)-'0')
		}
	}
	for _, word := range words[4:] {
		numbers := strings.Split(word, ",")
		if len(numbers) == 3 {
			f.Partings = append(f.Partings, readEdge(numbers))
		}
	}
	return f
}

func readEdge(numbers []string) api.Edge {
	var e api.Edge
	e.X, _ = strconv.Atoi(numbers[0])
	e.Y, _ = strconv.Atoi(numbers[1])
	e.Up, _ = strconv.Atoi(numbers[2])
	return e
}
