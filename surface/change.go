package surface

import (
	"slices"

	"wigmaker/api"
)

// Sew returns the cap with one more seam (P2.4).
func Sew(c api.Cap, s api.Seam) (api.Cap, api.Errno) {
	d := clone(c)
	d.Seams = append(d.Seams, s)
	if e := Validate(d); e != api.OK {
		return api.Cap{}, e
	}
	return d, api.OK
}

// Unsew returns the cap without a seam (P2.4).
func Unsew(c api.Cap, seam int) (api.Cap, api.Errno) {
	if e := Validate(c); e != api.OK {
		return api.Cap{}, e
	}
	if seam < 0 || seam >= len(c.Seams) {
		return api.Cap{}, api.ErrNone
	}
	d := clone(c)
	d.Seams = slices.Delete(d.Seams, seam, seam+1)
	return d, api.OK
}

// Dart moves degrees from a corner to the next one of its piece (P2.4).
func Dart(c api.Cap, corner, wedge int) (api.Cap, api.Errno) {
	if e := Validate(c); e != api.OK {
		return api.Cap{}, e
	}
	if corner < 0 || corner >= len(lay(c)) {
		return api.Cap{}, api.ErrNone
	}
	d := clone(c)
	piece := 0
	for corner >= len(d.Pieces[piece].Angles) {
		corner -= len(d.Pieces[piece].Angles)
		piece++
	}
	angles := d.Pieces[piece].Angles
	next := (corner + 1) % len(angles)
	// Compared without a sum, which a large wedge could overflow.
	if wedge < 1 || wedge > angles[corner]-1 || wedge > 359-angles[next] {
		return api.Cap{}, api.ErrArg
	}
	angles[corner] -= wedge
	angles[next] += wedge
	return d, api.OK
}

// Split cuts a piece in two and sews it together again there (P2.5).
func Split(c api.Cap, piece, i, j, length, angle int) (api.Cap, api.Errno) {
	if e := Validate(c); e != api.OK {
		return api.Cap{}, e
	}
	if !hasSide(c, piece, i) || !hasSide(c, piece, j) {
		return api.Cap{}, api.ErrNone
	}
	p := c.Pieces[piece]
	k := len(p.Sides)
	if i == j || (i+1)%k == j || (j+1)%k == i || !isSide(length) || !isAngle(angle) {
		return api.Cap{}, api.ErrArg
	}
	first := part(p, i, j, length, angle)
	second := part(p, j, i, length, p.Angles[j]-last(first.Angles))
	if !isAngle(last(first.Angles)) || !isAngle(second.Angles[0]) || !isAngle(last(second.Angles)) {
		return api.Cap{}, api.ErrArg
	}
	if len(c.Pieces) == api.MaxPieces {
		return api.Cap{}, api.ErrLarge
	}
	d := clone(c)
	d.Pieces[piece] = first
	d.Pieces = append(d.Pieces, second)
	moveSeams(d.Seams, piece, len(c.Pieces), i, (j-i+k)%k, k)
	line := api.Seam{A: piece, I: len(first.Sides) - 1, B: len(c.Pieces), J: len(second.Sides) - 1}
	d.Seams = append(d.Seams, line)
	return d, api.OK
}

// part returns the part of a piece with the sides from .. to-1 and then a
// line; angle is its angle at the corner from, and the one at the corner to is
// such that all add up.
func part(p api.Piece, from, to, length, angle int) api.Piece {
	var q api.Piece
	k := len(p.Sides)
	sum := 0
	for at := from; at != to; at = (at + 1) % k {
		q.Sides = append(q.Sides, p.Sides[at])
		q.Angles = append(q.Angles, p.Angles[at])
		sum += p.Angles[at]
	}
	q.Angles[0] = angle
	sum += angle - p.Angles[from]
	q.Sides = append(q.Sides, length)
	q.Angles = append(q.Angles, allAngles(len(q.Sides))-sum)
	return q
}

func last(list []int) int {
	return list[len(list)-1]
}

// moveSeams gives the seams of a piece with k sides their new places: the n
// sides from the side i on stay in the piece, the others are in the added one.
func moveSeams(seams []api.Seam, piece, added, i, n, k int) {
	move := func(a, side int) (int, int) {
		if a != piece {
			return a, side
		}
		at := (side - i + k) % k
		if at < n {
			return piece, at
		}
		return added, at - n
	}
	for s := range seams {
		seams[s].A, seams[s].I = move(seams[s].A, seams[s].I)
		seams[s].B, seams[s].J = move(seams[s].B, seams[s].J)
	}
}
