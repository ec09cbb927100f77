package ground

import (
	"slices"

	"jigsaw/api"
)

// meets: does what a constraint's kind says hold of the values x of A and y of
// B? The constraint may be, and so may they: no sum or product is too great.
func meets(c api.Con, x, y []int) bool {
	switch c.Kind {
	case api.LinEq, api.LinLe, api.LinNe, api.LinReif:
		return linear(c, sum(c.C, x), y)
	case api.Times, api.Div, api.Mod, api.Abs, api.Min, api.Max:
		return worksOut(c.Kind, x)
	case api.EqReif, api.LeReif, api.EqImp, api.LeImp:
		return told(c, x[0], y[0])
	case api.Element:
		return isPlace(x[0], len(c.C)) && c.C[x[0]-1] == x[1]
	case api.Clause:
		return slices.Contains(x, 1) || slices.Contains(y, 0)
	case api.AllDiff:
		return none(len(x), func(i int) bool { return slices.Contains(x[:i], x[i]) })
	case api.Table:
		return slices.ContainsFunc(c.Rows, func(row []int) bool { return slices.Equal(row, x) })
	case api.Cumulative:
		// Only where a task begins can more be needed than just before.
		return none(len(x), func(i int) bool { return needed(c, x, x[i]) > c.K })
	case api.Circuit:
		return leadsRound(x)
	case api.Gcc:
		return none(len(c.C), func(i int) bool {
			n := count(x, c.C[i])
			return n < c.D[i] || n > c.E[i]
		})
	case api.LexLe:
		return slices.Compare(x, y) <= 0
	case api.Inverse:
		return none(len(x), func(i int) bool { return !leadsBack(x, y, i) || !leadsBack(y, x, i) })
	}
	return false
}

// linear: does a linear constraint hold of a sum, and the values y of B?
func linear(c api.Con, total int, y []int) bool {
	switch c.Kind {
	case api.LinEq:
		return total == c.K
	case api.LinLe:
		return total <= c.K
	case api.LinNe:
		return total != c.K
	default: // LinReif
		return justIf(y[0], total <= c.K)
	}
}

// sum of each coefficient times its value.
func sum(coefs, x []int) int {
	n := 0
	for i, c := range coefs {
		n += c * x[i]
	}
	return n
}

// worksOut: is the last value what the ones ahead of it make by a kind?
func worksOut(kind int, x []int) bool {
	switch kind {
	case api.Times:
		return x[0]*x[1] == x[2]
	case api.Div:
		return x[1] != 0 && x[0]/x[1] == x[2]
	case api.Mod:
		return x[1] != 0 && x[0]%x[1] == x[2]
	case api.Abs:
		return max(x[0], -x[0]) == x[1]
	case api.Min:
		return min(x[0], x[1]) == x[2]
	default: // Max
		return max(x[0], x[1]) == x[2]
	}
}

// told: does b tell of x what a kind says?
func told(c api.Con, x, b int) bool {
	switch c.Kind {
	case api.EqReif:
		return justIf(b, x == c.K)
	case api.LeReif:
		return justIf(b, x <= c.K)
	case api.EqImp:
		return b == 0 || b == 1 && x == c.K
	default: // LeImp
		return b == 0 || b == 1 && x <= c.K
	}
}

// justIf: is b 1, if something is so, and else 0?
func justIf(b int, so bool) bool {
	if so {
		return b == 1
	}
	return b == 0
}

// isPlace of n, from 1 on?
func isPlace(v, n int) bool {
	return v >= 1 && v <= n
}

// needed by all tasks together that begin at x and run at a time.
func needed(c api.Con, x []int, time int) int {
	n := 0
	for i, begin := range x {
		if begin <= time && time < begin+c.C[i] {
			n += c.D[i]
		}
	}
	return n
}

// leadsRound: are all places gone through, from the first on, before it is met
// again? No place is met twice till then, since each leads to one alone.
func leadsRound(x []int) bool {
	at := 1
	for steps := range x {
		at = x[at-1]
		if !isPlace(at, len(x)) {
			return false
		}
		if at == 1 {
			return steps == len(x)-1
		}
	}
	return false
}

// count of a value.
func count(x []int, value int) int {
	n := 0
	for _, v := range x {
		if v == value {
			n++
		}
	}
	return n
}

// leadsBack: is what x has at i a place of y (from 1 on), and does that have
// the place of i?
func leadsBack(x, y []int, i int) bool {
	return isPlace(x[i], len(y)) && y[x[i]-1] == i+1
}
