package model

import (
	"slices"
	"strings"

	"jigsaw/api"
)

// Right: may a constraint be, of so many variables?
func Right(c api.Con, vars int) api.Errno {
	kind, ok := entryOf(c.Kind)
	switch {
	case !ok:
		return api.ErrKind
	case !rightSizes(c, kind.shape):
		return api.ErrArity
	case !places(c.A, vars) || !places(c.B, vars):
		return api.ErrName
	case !rightNumbers(c):
		return api.ErrCoef
	}
	return api.OK
}

// rightSizes: is all there that a constraint must have, and nothing else?
// A is looked at first: other lists must be as long as it.
func rightSizes(c api.Con, shape string) bool {
	return sizeOfA(c, shape).has(len(c.A)) &&
		sizeOfB(c, shape).has(len(c.B)) &&
		sizeOfC(c, shape).has(len(c.C)) &&
		sizeLikeC(c, shape, "d").has(len(c.D)) &&
		sizeLikeC(c, shape, "e").has(len(c.E)) &&
		rightRows(c, shape) &&
		(c.K == 0 || strings.Contains(shape, "k"))
}

// size of a list: how many elements it has at least, and at most. The zero
// size is that of a list that must be empty.
type size struct {
	least, most int
}

// just so many.
func just(n int) size { return size{n, n} }

// some: what most lists may have.
func some() size { return size{1, api.MaxTerms} }

// has it a number?
func (s size) has(n int) bool { return s.least <= n && n <= s.most }

// sizeOfA: how many variables A must have.
func sizeOfA(c api.Con, shape string) size {
	if c.Kind == api.Clause {
		return size{0, api.MaxTerms}
	}
	if n := strings.Count(shape, "v"); n > 0 {
		return just(n)
	}
	return some()
}

// sizeOfB: how many variables B must have, beside those of A.
func sizeOfB(c api.Con, shape string) size {
	switch {
	case c.Kind == api.Clause:
		return size{max(0, 1-len(c.A)), api.MaxTerms}
	case strings.Contains(shape, "W"):
		return just(len(c.A))
	case strings.Contains(shape, "w"):
		return just(1)
	}
	return size{}
}

// sizeOfC: how many numbers C must have, beside the variables of A.
func sizeOfC(c api.Con, shape string) size {
	switch {
	case !strings.Contains(shape, "c"):
		return size{}
	case c.Kind == api.Element || c.Kind == api.Gcc:
		return some()
	}
	return just(len(c.A))
}

// sizeLikeC: how many numbers the list of a letter must have: as many as C,
// if the shape names it.
func sizeLikeC(c api.Con, shape, letter string) size {
	if strings.Contains(shape, letter) {
		return just(len(c.C))
	}
	return size{}
}

// rightRows: are there as many rows as must be, each as long as A?
func rightRows(c api.Con, shape string) bool {
	if !strings.Contains(shape, "r") {
		return len(c.Rows) == 0
	}
	if len(c.Rows) < 1 || len(c.Rows) > api.MaxRows {
		return false
	}
	return !slices.ContainsFunc(c.Rows, func(row []int) bool { return len(row) != len(c.A) })
}

// places: are all places of so many variables? That may be any int, so that
// one less could wrap round.
func places(l []int, vars int) bool {
	return !slices.ContainsFunc(l, func(v int) bool { return v < 0 || v >= vars })
}

// rightNumbers: are all numbers of a constraint of the right sizes within
// their bounds? D and E have numbers only in kinds where they count something.
func rightNumbers(c api.Con) bool {
	leastC, leastK := -api.MaxCoef, -api.MaxK
	if c.Kind == api.Cumulative {
		leastC, leastK = 0, 0
	}
	if !within(c.C, leastC, api.MaxCoef) || !within(c.D, 0, api.MaxCoef) || !within(c.E, 0, api.MaxCoef) {
		return false
	}
	if c.K < leastK || c.K > api.MaxK {
		return false
	}
	for _, row := range c.Rows {
		if !within(row, -api.MaxCoef, api.MaxCoef) {
			return false
		}
	}
	return c.Kind != api.Gcc || rightCounts(c)
}

// rightCounts: is each value of a Gcc there once, its least count no more
// than its most?
func rightCounts(c api.Con) bool {
	for i, v := range c.C {
		if c.D[i] > c.E[i] || slices.Contains(c.C[:i], v) {
			return false
		}
	}
	return true
}

// within: are all from low to high?
func within(l []int, low, high int) bool {
	return !slices.ContainsFunc(l, func(v int) bool { return v < low || v > high })
}
