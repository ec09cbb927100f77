package model

import (
	"fmt"
	"math"
	"reflect"
	"slices"
	"strings"
	"testing"

	"jigsaw/api"
)

// tenVars: how many variables the tests' constraints are of.
const tenVars = 10

// rightCon of a kind, with as few as may be and two where lists may have that.
func rightCon(kind int) api.Con {
	c := api.Con{Kind: kind}
	switch kind {
	case api.LinEq, api.LinLe, api.LinNe:
		c.C, c.A, c.K = list(3, -4), list(0, 9), 5
	case api.LinReif:
		c.C, c.A, c.K, c.B = list(3, -4), list(0, 9), 5, list(1)
	case api.Times, api.Div, api.Mod, api.Min, api.Max:
		c.A = list(0, 9, 1)
	case api.Abs:
		c.A = list(0, 9)
	case api.Element:
		c.A, c.C = list(0, 9), list(7, -7, 7)
	case api.EqReif, api.LeReif, api.EqImp, api.LeImp:
		c.A, c.K, c.B = list(0), -5, list(9)
	case api.AllDiff, api.Circuit:
		c.A = list(0, 9)
	case api.Table:
		c.A, c.Rows = list(0, 9), [][]int{{1, 2}, {-3, 4}, {1, 2}}
	case api.Cumulative:
		c.A, c.C, c.D, c.K = list(0, 9), list(3, 0), list(0, 2), 5
	case api.Gcc:
		c.A, c.C, c.D, c.E = list(0, 9), list(4, -4, 0), list(0, 1, 2), list(0, 1, 3)
	case api.Clause, api.LexLe, api.Inverse:
		c.A, c.B = list(0, 9), list(1, 2)
	}
	return c
}

// copyOf a constraint, that shares nothing with it.
func copyOf(c api.Con) api.Con {
	c.A, c.B = slices.Clone(c.A), slices.Clone(c.B)
	c.C, c.D, c.E = slices.Clone(c.C), slices.Clone(c.D), slices.Clone(c.E)
	rows := slices.Clone(c.Rows)
	for i := range rows {
		rows[i] = slices.Clone(rows[i])
	}
	c.Rows = rows
	return c
}

// checkRight holds Right against what it should tell.
func checkRight(t *testing.T, what string, c api.Con, vars int, want api.Errno) {
	t.Helper()
	before := copyOf(c)
	if e := Right(c, vars); e != want {
		t.Errorf("P6.2: %s: %.200s, of %d: %d; want %d", what, fmt.Sprint(c), vars, e, want)
	}
	if !reflect.DeepEqual(c, before) {
		t.Errorf("rule 4: %s: %.200s became %.200s", what, fmt.Sprint(before), fmt.Sprint(c))
	}
}

// parts of a constraint that are lists of numbers, by their letters.
func parts(c *api.Con) map[string]*[]int {
	return map[string]*[]int{"A": &c.A, "B": &c.B, "C": &c.C, "D": &c.D, "E": &c.E}
}

// lettersOf a part, in shapes.
var lettersOf = map[string]string{"A": "vV", "B": "wW", "C": "c", "D": "d", "E": "e"}

func TestP6_2Example(t *testing.T) {
	checkRight(t, "example", api.Con{Kind: api.AllDiff, A: list(0, 2)}, 2, api.ErrName)
	checkRight(t, "example", api.Con{Kind: api.AllDiff, A: list(0, 2)}, 3, api.OK)
}

func TestP6_2RightOnes(t *testing.T) {
	for _, x := range told {
		c := rightCon(x.kind)
		checkRight(t, x.word, c, tenVars, api.OK)
		checkRight(t, x.word, c, math.MaxInt, api.OK)
		c.K = 0
		checkRight(t, x.word+", K 0", c, tenVars, api.OK)
		for _, l := range parts(&c) {
			if *l == nil {
				*l = []int{}
			}
		}
		if c.Rows == nil {
			c.Rows = [][]int{}
		}
		checkRight(t, x.word+", empty lists", c, tenVars, api.OK)
	}
}

func TestP6_2NoKinds(t *testing.T) {
	for _, kind := range noKinds {
		checkRight(t, "no kind", api.Con{Kind: kind}, tenVars, api.ErrKind)
		checkRight(t, "no kind", api.Con{Kind: kind, A: list(0)}, tenVars, api.ErrKind)
		checkRight(t, "no kind", api.Con{Kind: kind, A: list(99), C: list(math.MaxInt), Rows: [][]int{{}}}, 0, api.ErrKind)
	}
}

func TestP6_2NothingElse(t *testing.T) {
	for _, x := range told {
		for name, letters := range lettersOf {
			if strings.ContainsAny(x.shape, letters) {
				continue
			}
			for _, l := range [][]int{{0}, {0, 0}, {math.MaxInt}, make([]int, api.MaxTerms)} {
				c := rightCon(x.kind)
				*parts(&c)[name] = l
				checkRight(t, x.word+" with "+name, c, tenVars, api.ErrArity)
			}
		}
		if !strings.Contains(x.shape, "k") {
			for _, k := range []int{1, -1, math.MaxInt, math.MinInt} {
				c := rightCon(x.kind)
				c.K = k
				checkRight(t, x.word+" with K", c, tenVars, api.ErrArity)
			}
		}
		if !strings.Contains(x.shape, "r") {
			for _, rows := range [][][]int{{{}}, {nil}, {{0}}, {{0, 0}}} {
				c := rightCon(x.kind)
				c.Rows = rows
				checkRight(t, x.word+" with Rows", c, tenVars, api.ErrArity)
			}
		}
	}
}

// counts of a constraint's parts.
type counts struct{ a, b, c, d, e, rows, row int }

// withCounts: a constraint of a kind with lists so long, else right.
func withCounts(kind int, n counts) api.Con {
	c := api.Con{Kind: kind, A: make([]int, n.a), B: make([]int, n.b), C: rising(0, n.c), D: make([]int, n.d), E: make([]int, n.e)}
	for range n.rows {
		c.Rows = append(c.Rows, make([]int, n.row))
	}
	return c
}

// mayCount: may a kind have lists so long? Kind by kind, as the chapter says.
func mayCount(kind int, n counts) bool {
	some := func(l ...int) bool { return slices.Min(l) >= 1 && slices.Max(l) <= api.MaxTerms }
	none := func(l ...int) bool { return slices.Max(l) == 0 }
	switch kind {
	case api.LinEq, api.LinLe, api.LinNe:
		return some(n.a, n.c) && n.c == n.a && none(n.b, n.d, n.e, n.rows)
	case api.LinReif:
		return some(n.a, n.c) && n.c == n.a && n.b == 1 && none(n.d, n.e, n.rows)
	case api.Times, api.Div, api.Mod, api.Min, api.Max:
		return n.a == 3 && none(n.b, n.c, n.d, n.e, n.rows)
	case api.Abs:
		return n.a == 2 && none(n.b, n.c, n.d, n.e, n.rows)
	case api.Element:
		return n.a == 2 && some(n.c) && none(n.b, n.d, n.e, n.rows)
	case api.Clause:
		return n.a <= api.MaxTerms && n.b <= api.MaxTerms && n.a+n.b >= 1 && none(n.c, n.d, n.e, n.rows)
	case api.EqReif, api.LeReif, api.EqImp, api.LeImp:
		return n.a == 1 && n.b == 1 && none(n.c, n.d, n.e, n.rows)
	case api.AllDiff, api.Circuit:
		return some(n.a) && none(n.b, n.c, n.d, n.e, n.rows)
	case api.Table:
		return some(n.a) && n.rows >= 1 && n.rows <= api.MaxRows && n.row == n.a && none(n.b, n.c, n.d, n.e)
	case api.Cumulative:
		return some(n.a, n.c, n.d) && n.c == n.a && n.d == n.a && none(n.b, n.e, n.rows)
	case api.Gcc:
		return some(n.a, n.c, n.d, n.e) && n.d == n.c && n.e == n.c && none(n.b, n.rows)
	case api.LexLe, api.Inverse:
		return some(n.a, n.b) && n.b == n.a && none(n.c, n.d, n.e, n.rows)
	}
	return false
}

// checkCounts of each kind.
func checkCounts(t *testing.T, n counts) {
	t.Helper()
	for _, x := range told {
		want := api.ErrArity
		if mayCount(x.kind, n) {
			want = api.OK
		}
		if e := Right(withCounts(x.kind, n), tenVars); e != want {
			t.Errorf("P6.2: %s with %+v: %d; want %d", x.word, n, e, want)
		}
	}
}

func TestP6_2SmallCounts(t *testing.T) {
	for a := range 5 {
		for b := range 4 {
			for c := range 4 {
				for d := range 4 {
					for e := range 4 {
						checkCounts(t, counts{a, b, c, d, e, 0, 0})
						checkCounts(t, counts{a, b, c, d, e, 1, a})
					}
				}
			}
		}
	}
}

func TestP6_2CountsAtTheEdge(t *testing.T) {
	edges := []int{0, 1, 2, api.MaxTerms - 1, api.MaxTerms, api.MaxTerms + 1, 2 * api.MaxTerms}
	for _, a := range edges {
		for _, other := range edges {
			for bits := range 16 {
				n := counts{a: a}
				for i, part := range []*int{&n.b, &n.c, &n.d, &n.e} {
					if bits>>i&1 == 1 {
						*part = other
					}
				}
				checkCounts(t, n)
				if n.b == 0 {
					n.b = 1
					checkCounts(t, n)
				}
			}
		}
	}
}

func TestP6_2Rows(t *testing.T) {
	for _, rows := range []int{0, 1, 2, api.MaxRows - 1, api.MaxRows, api.MaxRows + 1, 2 * api.MaxRows} {
		for _, a := range []int{0, 1, 3, api.MaxTerms, api.MaxTerms + 1} {
			for _, row := range []int{0, 1, a - 1, a, a + 1} {
				if row >= 0 {
					checkCounts(t, counts{a: a, rows: rows, row: row})
				}
			}
		}
	}
	for _, at := range []int{0, 1, 2} {
		for _, row := range [][]int{nil, {}, {1}, {1, 2, 3}} {
			c := rightCon(api.Table)
			c.Rows[at] = row
			checkRight(t, "one row", c, tenVars, api.ErrArity)
		}
	}
}

func TestP6_2Places(t *testing.T) {
	for _, x := range told {
		for _, name := range []string{"A", "B"} {
			sample := rightCon(x.kind)
			for i := range *parts(&sample)[name] {
				for v, want := range map[int]api.Errno{0: 0, 1: 0, tenVars - 1: 0, tenVars: api.ErrName, tenVars + 1: api.ErrName, -1: api.ErrName, math.MinInt: api.ErrName, math.MaxInt: api.ErrName, 1 << 32: api.ErrName} {
					c := rightCon(x.kind)
					(*parts(&c)[name])[i] = v
					checkRight(t, x.word+", "+name, c, tenVars, want)
				}
			}
		}
		for vars, want := range map[int]api.Errno{math.MinInt: api.ErrName, math.MinInt + 1: api.ErrName, -1: api.ErrName, 0: api.ErrName, 1: api.ErrName, 9: api.ErrName, 10: api.OK, 11: api.OK, api.MaxVars + 1: api.OK, math.MaxInt: api.OK} {
			checkRight(t, x.word, rightCon(x.kind), vars, want)
		}
	}
}

// checkBounds: what set makes of a right constraint may be just with a number
// from low to high.
func checkBounds(t *testing.T, kind int, what string, low, high int, set func(c *api.Con, v int)) {
	t.Helper()
	word, _ := Word(kind)
	for v, want := range map[int]api.Errno{low: api.OK, low + 1: api.OK, (low + high) / 2: api.OK, high - 1: api.OK, high: api.OK, low - 1: api.ErrCoef, high + 1: api.ErrCoef, math.MinInt: api.ErrCoef, math.MaxInt: api.ErrCoef} {
		c := rightCon(kind)
		set(&c, v)
		checkRight(t, word+", "+what, c, tenVars, want)
	}
}

func TestP6_2Coefficients(t *testing.T) {
	for _, kind := range []int{api.LinEq, api.LinLe, api.LinNe, api.LinReif, api.Element, api.Cumulative} {
		low := -api.MaxCoef
		if kind == api.Cumulative {
			low = 0
		}
		for i := range rightCon(kind).C {
			checkBounds(t, kind, "C", low, api.MaxCoef, func(c *api.Con, v int) { c.C[i] = v })
		}
	}
	for i := range 2 {
		checkBounds(t, api.Cumulative, "D", 0, api.MaxCoef, func(c *api.Con, v int) { c.D[i] = v })
	}
	for i := range 3 {
		for j := range 2 {
			checkBounds(t, api.Table, "Rows", -api.MaxCoef, api.MaxCoef, func(c *api.Con, v int) { c.Rows[i][j] = v })
		}
	}
}

func TestP6_2Gcc(t *testing.T) {
	for i := range 3 {
		checkBounds(t, api.Gcc, "C", -api.MaxCoef, api.MaxCoef, func(c *api.Con, v int) { c.C = list(10, 20, 30); c.C[i] = v })
		checkBounds(t, api.Gcc, "D", 0, api.MaxCoef, func(c *api.Con, v int) { c.D[i], c.E[i] = v, api.MaxCoef })
		checkBounds(t, api.Gcc, "E", 0, api.MaxCoef, func(c *api.Con, v int) { c.D[i], c.E[i] = 0, v })
		checkBounds(t, api.Gcc, "D and E", 0, api.MaxCoef, func(c *api.Con, v int) { c.D[i], c.E[i] = v, v })
		c := rightCon(api.Gcc)
		c.D[i] = c.E[i] + 1
		checkRight(t, "D above E", c, tenVars, api.ErrCoef)
		for j := range i {
			c := rightCon(api.Gcc)
			c.C[i] = c.C[j]
			checkRight(t, "C twice", c, tenVars, api.ErrCoef)
		}
	}
	long := api.Con{Kind: api.Gcc, A: list(0), C: rising(-5, api.MaxTerms), D: make([]int, api.MaxTerms), E: make([]int, api.MaxTerms)}
	checkRight(t, "long", long, tenVars, api.OK)
	long.C[api.MaxTerms-1] = long.C[0]
	checkRight(t, "C twice, far apart", long, tenVars, api.ErrCoef)
	checkRight(t, "D and E of another place", api.Con{Kind: api.Gcc, A: list(0), C: list(1, 2), D: list(0, 5), E: list(5, 0)}, tenVars, api.ErrCoef)
}

func TestP6_2Twice(t *testing.T) {
	checkRight(t, "C twice", api.Con{Kind: api.LinEq, A: list(0, 0), C: list(1, 1)}, tenVars, api.OK)
	checkRight(t, "C twice", api.Con{Kind: api.Cumulative, A: list(1, 1), C: list(9, 9), D: list(1, 1)}, tenVars, api.OK)
	checkRight(t, "C above D", api.Con{Kind: api.Cumulative, A: list(1, 1), C: list(9, 0), D: list(0, 9)}, tenVars, api.OK)
	checkRight(t, "A twice", api.Con{Kind: api.AllDiff, A: list(0, 0)}, tenVars, api.OK)
	checkRight(t, "A is B", api.Con{Kind: api.Inverse, A: list(0, 1), B: list(0, 1)}, tenVars, api.OK)
}

func TestP6_2K(t *testing.T) {
	for _, x := range told {
		if !strings.Contains(x.shape, "k") {
			continue
		}
		low := -api.MaxK
		if x.kind == api.Cumulative {
			low = 0
		}
		checkBounds(t, x.kind, "K", low, api.MaxK, func(c *api.Con, v int) { c.K = v })
	}
}

func TestP6_2OrderOfErrors(t *testing.T) {
	for _, x := range told {
		name := rightCon(x.kind)
		if len(name.B) > 0 {
			name.B[len(name.B)-1] = tenVars
		} else {
			name.A[len(name.A)-1] = -1
		}
		checkRight(t, x.word, name, tenVars, api.ErrName)
		coef := copyOf(name)
		for _, l := range [][]int{coef.C, coef.D, coef.E} {
			for i := range l {
				l[i] = math.MinInt
			}
		}
		if strings.Contains(x.shape, "k") {
			coef.K = math.MaxInt
		}
		for _, row := range coef.Rows {
			row[0] = math.MaxInt
		}
		checkRight(t, x.word+", place and numbers", coef, tenVars, api.ErrName)
		longer := copyOf(coef)
		longer.A = append(longer.A, make([]int, api.MaxTerms)...)
		checkRight(t, x.word+", size, place and numbers", longer, tenVars, api.ErrArity)
		longer.Kind = 0
		checkRight(t, x.word+", all", longer, tenVars, api.ErrKind)
	}
}

// What lies behind a list's length is wrong here, and must not be read.
func TestP6_2BehindTheLength(t *testing.T) {
	short := func(l ...int) []int { return append(l, math.MinInt, -1, 99)[:len(l)] }
	rows := append([][]int{short(1, 2), short(3, 4)}, nil, []int{1})[:2]
	checkRight(t, "Table", api.Con{Kind: api.Table, A: short(0, 1), Rows: rows}, tenVars, api.OK)
	checkRight(t, "Gcc", api.Con{Kind: api.Gcc, A: short(0), C: short(1, 2), D: short(0, 0), E: short(1, 1)}, tenVars, api.OK)
	checkRight(t, "Clause", api.Con{Kind: api.Clause, A: short(), B: short()}, tenVars, api.ErrArity)
	checkRight(t, "Times", api.Con{Kind: api.Times, A: short(0, 1, 2), B: short(), C: short()}, tenVars, api.OK)
}
