package lin

import (
	"jigsaw/api"
	"jigsaw/dom"
	"jigsaw/num"
)

// term of a sum: a coefficient, and a domain of which the values from low to
// high are left. Bounds leave out nothing between, so that a domain need not
// be made anew each time that a bound is met.
type term struct {
	coef      int
	all       dom.Dom
	low, high int
}

// termOf a coefficient and a domain.
func termOf(coef int, d dom.Dom) term {
	return term{coef: coef, all: d, low: d.Min(), high: d.Max()}
}

// terms of a constraint.
func terms(c api.Con, d []dom.Dom) []term {
	l := make([]term, len(c.C))
	for i, coef := range c.C {
		l[i] = termOf(coef, d[i])
	}
	return l
}

// turn all coefficients.
func turn(l []term) {
	for i := range l {
		l[i].coef = -l[i].coef
	}
}

// least that a term can be.
func (t *term) least() int { return min(t.coef*t.low, t.coef*t.high) }

// greatest that a term can be.
func (t *term) greatest() int { return max(t.coef*t.low, t.coef*t.high) }

// bound the sum by k: did a value go, and is each domain left one?
func bound(l []term, k int) (changed, ok bool) {
	// What is left between the least sum and k, any one term may have more than
	// its own least. That is the same for all, since no least one ever goes.
	room := k
	for i := range l {
		room -= l[i].least()
	}
	if room < 0 {
		return false, false
	}
	for i := range l {
		if l[i].cut(l[i].least() + room) {
			changed = true
		}
	}
	return changed, true
}

// cut a term to what is at most a number, which isn't below its least: did a
// value go?
func (t *term) cut(most int) bool {
	if t.greatest() <= most {
		return false
	}
	// The coefficient isn't 0: of that the greatest is the least.
	if t.coef > 0 {
		edge, _ := num.Floor(most, t.coef)
		t.high, _ = t.all.Prev(edge + 1)
	} else {
		edge, _ := num.Ceil(most, t.coef)
		t.low, _ = t.all.Next(edge - 1)
	}
	return true
}

// leave of each domain what its term has left.
func leave(l []term, d []dom.Dom) {
	for i, t := range l {
		// A bound that stays costs nothing, however wide the domain is.
		if t.low > d[i].Min() {
			d[i], _ = d[i].AtLeast(t.low)
		}
		if t.high < d[i].Max() {
			d[i], _ = d[i].AtMost(t.high)
		}
	}
}
