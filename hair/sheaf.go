package hair

import "wigmaker/api"

// sheaf is a bundle with a number for every length. Arrays are copied by
// assignment, so no result can share memory with an argument.
type sheaf struct {
	right, wrong [api.MaxLong]int
}

// open returns the sheaf of a bundle, or the error of Validate.
func open(b api.Bundle) (sheaf, api.Errno) {
	if e := Validate(b); e != api.OK {
		return sheaf{}, e
	}
	var s sheaf
	copy(s.right[:], b.Right)
	copy(s.wrong[:], b.Wrong)
	return s, api.OK
}

// openBoth returns the sheaves of two bundles, or the error of the first that
// has one.
func openBoth(a, b api.Bundle) (s, t sheaf, e api.Errno) {
	if s, e = open(a); e != api.OK {
		return sheaf{}, sheaf{}, e
	}
	if t, e = open(b); e != api.OK {
		return sheaf{}, sheaf{}, e
	}
	return s, t, api.OK
}

// bundle returns the trimmed bundle. Only here can a number be found too large
// for a result, so that this error comes after all others.
func (s sheaf) bundle() (api.Bundle, api.Errno) {
	for i := range s.right {
		if s.right[i] > api.MaxHairs || s.wrong[i] > api.MaxHairs {
			return api.Bundle{}, api.ErrLarge
		}
	}
	return s.trimmed(), api.OK
}

// trimmed is bundle for sheaves that have no more hairs than a valid one.
func (s sheaf) trimmed() api.Bundle {
	return api.Bundle{Right: trim(s.right[:]), Wrong: trim(s.wrong[:])}
}

// trim copies a list without the zeros at its end.
func trim[T comparable](list []T) []T {
	var zero T
	n := len(list)
	for n > 0 && list[n-1] == zero {
		n--
	}
	return append([]T(nil), list[:n]...)
}

// above counts the hairs of at least a length, which may be any number.
func (s sheaf) above(length int) int {
	n := 0
	for i := max(length, 1) - 1; i < api.MaxLong; i++ {
		n += s.right[i] + s.wrong[i]
	}
	return n
}

func (s sheaf) count() int {
	return s.above(1)
}

func (s sheaf) inches() int {
	n := 0
	for i := range s.right {
		n += (i + 1) * (s.right[i] + s.wrong[i])
	}
	return n
}

func (s sheaf) plus(t sheaf) sheaf {
	for i := range s.right {
		s.right[i] += t.right[i]
		s.wrong[i] += t.wrong[i]
	}
	return s
}

func (s sheaf) minus(t sheaf) sheaf {
	for i := range s.right {
		s.right[i] -= t.right[i]
		s.wrong[i] -= t.wrong[i]
	}
	return s
}

// pick returns n hairs of the length i + 1, or as many as there are, those
// that lie right first.
func (s sheaf) pick(i, n int) (right, wrong int) {
	right = min(n, s.right[i])
	wrong = min(n-right, s.wrong[i])
	return right, wrong
}

// draw parts the n longest hairs from the rest.
func (s sheaf) draw(n int) (drawn, rest sheaf) {
	for i := api.MaxLong - 1; i >= 0; i-- {
		right, wrong := s.pick(i, n)
		drawn.right[i], drawn.wrong[i] = right, wrong
		n -= right + wrong
	}
	return drawn, s.minus(drawn)
}

// cut takes n hairs for wanted ones of the length i + 1 out of s, the shortest
// that serve first. It returns what is left, what was cut off, and how many
// wanted hairs found none.
func (s sheaf) cut(i, n int) (rest sheaf, lost, unserved int) {
	for k := i; k < api.MaxLong; k++ {
		right, wrong := s.pick(k, n)
		s.right[k] -= right
		s.wrong[k] -= wrong
		lost += (k - i) * (right + wrong)
		n -= right + wrong
	}
	return s, lost, n
}
