package ground

import (
	"fmt"
	"math"
	"reflect"
	"slices"
	"strconv"
	"testing"

	"jigsaw/api"
)

func ints(v ...int) []int { return v }

// rising numbers, so many from one on.
func rising(low, n int) []int {
	l := make([]int, n)
	for i := range l {
		l[i] = low + i
	}
	return l
}

// same number, so many times.
func same(v, n int) []int {
	l := make([]int, n)
	for i := range l {
		l[i] = v
	}
	return l
}

// with another value at a place.
func with(l []int, at, v int) []int {
	l = slices.Clone(l)
	l[at] = v
	return l
}

// copyOf a constraint, that shares nothing with it.
func copyOf(c api.Con) api.Con {
	c.A, c.B = slices.Clone(c.A), slices.Clone(c.B)
	c.C, c.D, c.E = slices.Clone(c.C), slices.Clone(c.D), slices.Clone(c.E)
	c.Rows = slices.Clone(c.Rows)
	for i := range c.Rows {
		c.Rows[i] = slices.Clone(c.Rows[i])
	}
	return c
}

// copyOfModel that shares nothing with it.
func copyOfModel(m api.Model) api.Model {
	m.Names, m.Doms, m.Cons = slices.Clone(m.Names), slices.Clone(m.Doms), slices.Clone(m.Cons)
	for i := range m.Doms {
		m.Doms[i] = slices.Clone(m.Doms[i])
	}
	for i := range m.Cons {
		m.Cons[i] = copyOf(m.Cons[i])
	}
	return m
}

// checkHolds holds Holds against what it should tell, and what it is handed
// against what that was.
func checkHolds(t *testing.T, what string, c api.Con, a []int, want bool) {
	t.Helper()
	c2, a2 := copyOf(c), slices.Clone(a)
	if got := Holds(c, a); got != want {
		t.Errorf("P9.1: %s: Holds(%.300s, %.200s): %v, want %v", what, fmt.Sprint(c), fmt.Sprint(a), got, want)
	}
	if !reflect.DeepEqual(c, c2) || !slices.Equal(a, a2) {
		t.Errorf("rule 4: %s: %.300s, %.200s became %.300s, %.200s", what, fmt.Sprint(c2), fmt.Sprint(a2), fmt.Sprint(c), fmt.Sprint(a))
	}
}

// checkBroken, and checkSolution, likewise.
func checkBroken(t *testing.T, what string, m api.Model, a []int, at int, want bool) {
	t.Helper()
	m2, a2 := copyOfModel(m), slices.Clone(a)
	if n, broken := Broken(m, a); n != at || broken != want {
		t.Errorf("P9.1: %s: Broken(%.300s, %.200s): %d, %v, want %d, %v", what, fmt.Sprint(m), fmt.Sprint(a), n, broken, at, want)
	}
	if !reflect.DeepEqual(m, m2) || !slices.Equal(a, a2) {
		t.Errorf("rule 4: %s: %.300s, %.200s became %.300s, %.200s", what, fmt.Sprint(m2), fmt.Sprint(a2), fmt.Sprint(m), fmt.Sprint(a))
	}
}

func checkSolution(t *testing.T, what string, m api.Model, a []int, want bool) {
	t.Helper()
	m2, a2 := copyOfModel(m), slices.Clone(a)
	if got := Solution(m, a); got != want {
		t.Errorf("P9.1: %s: Solution(%.300s, %.200s): %v, want %v", what, fmt.Sprint(m), fmt.Sprint(a), got, want)
	}
	if !reflect.DeepEqual(m, m2) || !slices.Equal(a, a2) {
		t.Errorf("rule 4: %s: %.300s, %.200s became %.300s, %.200s", what, fmt.Sprint(m2), fmt.Sprint(a2), fmt.Sprint(m), fmt.Sprint(a))
	}
}

// held: constraints, some of each kind, with values of which they hold, and
// with some of which they don't.
var held = []struct {
	c          api.Con
	holds, not [][]int
}{
	{api.Con{Kind: api.LinEq, A: ints(0, 1), C: ints(2, -3), K: 1}, [][]int{{5, 3}, {2, 1}, {-1, -1}}, [][]int{{5, 4}, {3, 5}, {0, 0}, {1, 0}, {4, 2}}},
	{api.Con{Kind: api.LinEq, A: ints(1, 1), C: ints(1, 1), K: 4}, [][]int{{9, 2}}, [][]int{{2, 4}, {2, 1}}},
	{api.Con{Kind: api.LinEq, A: ints(0), C: ints(0), K: 0}, [][]int{{0}, {7}}, nil},
	{api.Con{Kind: api.LinLe, A: ints(0, 1), C: ints(2, -3), K: 1}, [][]int{{5, 3}, {4, 3}, {-5, 0}}, [][]int{{6, 3}, {1, 0}, {5, 2}}},
	{api.Con{Kind: api.LinNe, A: ints(0, 1), C: ints(2, -3), K: 1}, [][]int{{5, 4}, {4, 3}, {0, 0}, {6, 3}}, [][]int{{5, 3}, {-1, -1}}},
	{api.Con{Kind: api.LinReif, A: ints(0), B: ints(1), C: ints(2), K: 5}, [][]int{{2, 1}, {-9, 1}, {3, 0}, {9, 0}}, [][]int{{2, 0}, {3, 1}, {2, 2}, {3, 2}, {2, -1}, {3, -1}}},
	{api.Con{Kind: api.LinReif, A: ints(0), B: ints(0), C: ints(1), K: 0}, nil, [][]int{{0}, {1}, {-1}, {2}}},
	{api.Con{Kind: api.Times, A: ints(0, 1, 2)}, [][]int{{-3, 4, -12}, {-3, -4, 12}, {0, 7, 0}, {7, 0, 0}, {1, 7, 7}}, [][]int{{3, 4, 13}, {3, 4, -12}, {0, 0, 1}, {12, 3, 4}, {2, 3, 5}}},
	{api.Con{Kind: api.Times, A: ints(0, 0, 0)}, [][]int{{0}, {1}}, [][]int{{-1}, {2}}},
	{api.Con{Kind: api.Div, A: ints(0, 1, 2)}, [][]int{{7, 2, 3}, {-7, 2, -3}, {7, -2, -3}, {-7, -2, 3}, {0, 5, 0}, {1, 5, 0}, {-1, 5, 0}, {8, 2, 4}, {-8, 2, -4}}, [][]int{{-7, 2, -4}, {7, -2, -4}, {7, 2, 4}, {-7, 0, 0}, {0, 0, 0}, {1, 0, 1}, {2, 7, 3}}},
	{api.Con{Kind: api.Mod, A: ints(0, 1, 2)}, [][]int{{7, 2, 1}, {-7, 2, -1}, {7, -2, 1}, {-7, -2, -1}, {0, 5, 0}, {3, 5, 3}, {-3, 5, -3}, {8, 2, 0}, {-8, -4, 0}}, [][]int{{-7, 2, 1}, {7, -2, -1}, {7, 0, 7}, {7, 0, 0}, {0, 0, 0}, {7, 2, 3}, {3, 5, -2}}},
	{api.Con{Kind: api.Abs, A: ints(0, 1)}, [][]int{{-4, 4}, {4, 4}, {0, 0}}, [][]int{{4, -4}, {-4, -4}, {3, 4}, {0, 1}}},
	{api.Con{Kind: api.Min, A: ints(0, 1, 2)}, [][]int{{3, 2, 2}, {2, 3, 2}, {2, 2, 2}, {-5, 1, -5}}, [][]int{{3, 2, 3}, {2, 3, 3}, {3, 2, 1}, {2, 2, 3}}},
	{api.Con{Kind: api.Max, A: ints(0, 1, 2)}, [][]int{{3, 2, 3}, {2, 3, 3}, {2, 2, 2}, {-5, 1, 1}}, [][]int{{3, 2, 2}, {2, 3, 2}, {3, 2, 4}, {2, 2, 1}}},
	{api.Con{Kind: api.Element, A: ints(0, 1), C: ints(7, 8, -7)}, [][]int{{1, 7}, {2, 8}, {3, -7}}, [][]int{{0, 7}, {0, 8}, {4, 7}, {4, -7}, {1, 8}, {2, 7}, {-1, 7}, {3, 8}}},
	{api.Con{Kind: api.Element, A: ints(0, 0), C: ints(2, 2, 4)}, [][]int{{2}}, [][]int{{1}, {3}, {4}, {0}}},
	{api.Con{Kind: api.Clause, A: ints(0, 1), B: ints(2, 3)}, [][]int{{1, 0, 1, 1}, {0, 1, 1, 1}, {0, 0, 0, 1}, {0, 0, 1, 0}, {5, 1, 2, 2}, {5, 5, 7, 0}}, [][]int{{0, 0, 1, 1}, {2, 2, 2, 2}, {-1, -1, -1, -1}, {0, 2, 1, 3}}},
	{api.Con{Kind: api.Clause, A: ints(0)}, [][]int{{1}, {1, 1}}, [][]int{{0}, {2}, {-1}, {0, 0}, {0, 1}}},
	{api.Con{Kind: api.Clause, B: ints(0)}, [][]int{{0}, {0, 1}}, [][]int{{1}, {2}, {-1}, {1, 0}}},
	{api.Con{Kind: api.Clause, A: ints(0), B: ints(0)}, [][]int{{0}, {1}}, [][]int{{2}, {-1}}},
	{api.Con{Kind: api.EqReif, A: ints(0), B: ints(1), K: 3}, [][]int{{3, 1}, {2, 0}, {4, 0}, {-3, 0}}, [][]int{{3, 0}, {2, 1}, {4, 1}, {3, 2}, {2, 2}, {2, -1}, {3, 3}}},
	{api.Con{Kind: api.EqReif, A: ints(0), B: ints(0), K: 1}, [][]int{{0}, {1}}, [][]int{{2}, {-1}}},
	{api.Con{Kind: api.LeReif, A: ints(0), B: ints(1), K: 3}, [][]int{{3, 1}, {2, 1}, {-9, 1}, {4, 0}, {9, 0}}, [][]int{{3, 0}, {2, 0}, {4, 1}, {3, 2}, {4, 2}, {4, -1}}},
	{api.Con{Kind: api.EqImp, A: ints(0), B: ints(1), K: 3}, [][]int{{3, 1}, {3, 0}, {2, 0}, {4, 0}}, [][]int{{2, 1}, {4, 1}, {3, 2}, {3, -1}, {2, 2}, {3, 3}}},
	{api.Con{Kind: api.LeImp, A: ints(0), B: ints(1), K: 3}, [][]int{{3, 1}, {2, 1}, {3, 0}, {4, 0}}, [][]int{{4, 1}, {9, 2}, {3, 2}, {2, -1}}},
	{api.Con{Kind: api.AllDiff, A: ints(0, 1, 2)}, [][]int{{3, 1, 2}, {0, -1, 1}, {9, 7, 8, 9}}, [][]int{{3, 1, 3}, {1, 1, 2}, {2, 1, 1}, {0, 0, 0}}},
	{api.Con{Kind: api.AllDiff, A: ints(0, 1, 0)}, nil, [][]int{{1, 2}, {1, 1}}},
	{api.Con{Kind: api.AllDiff, A: ints(2)}, [][]int{{5, 5, 5}}, nil},
	{api.Con{Kind: api.Table, A: ints(0, 1), Rows: [][]int{{1, 2}, {3, 4}, {1, 2}}}, [][]int{{1, 2}, {3, 4}, {3, 4, 9}}, [][]int{{1, 4}, {3, 2}, {2, 1}, {0, 0}}},
	{api.Con{Kind: api.Table, A: ints(1, 0), Rows: [][]int{{1, 2}}}, [][]int{{2, 1}}, [][]int{{1, 2}}},
	{api.Con{Kind: api.Table, A: ints(0, 0), Rows: [][]int{{1, 2}, {3, 3}}}, [][]int{{3}}, [][]int{{1}, {2}}},
	{api.Con{Kind: api.Cumulative, A: ints(0, 1), C: ints(3, 2), D: ints(2, 2), K: 3}, [][]int{{0, 3}, {0, -2}, {0, 9}, {-9, 0}}, [][]int{{0, 2}, {0, -1}, {0, 0}, {0, 1}}},
	{api.Con{Kind: api.Cumulative, A: ints(0, 1), C: ints(3, 0), D: ints(2, 2), K: 3}, [][]int{{0, 2}, {0, 0}}, nil},
	{api.Con{Kind: api.Cumulative, A: ints(0, 1), C: ints(3, 0), D: ints(2, 9), K: 2}, [][]int{{0, 1}, {5, 5}}, nil},
	{api.Con{Kind: api.Cumulative, A: ints(0), C: ints(1), D: ints(4), K: 3}, nil, [][]int{{0}, {-5}}},
	{api.Con{Kind: api.Cumulative, A: ints(0), C: ints(0), D: ints(4), K: 0}, [][]int{{0}, {-5}}, nil},
	{api.Con{Kind: api.Cumulative, A: ints(0, 0), C: ints(1, 1), D: ints(1, 0)}, nil, [][]int{{0}}},
	{api.Con{Kind: api.Cumulative, A: ints(0, 1, 2), C: ints(4, 3, 2), D: ints(1, 1, 1), K: 2}, [][]int{{0, 2, 4}, {0, 1, 4}, {0, 4, 1}, {0, 0, 3}}, [][]int{{0, 1, 2}, {0, 0, 2}, {0, 2, 1}, {0, 2, 3}, {0, 3, 3}, {3, 1, 2}}},
	{api.Con{Kind: api.Circuit, A: ints(0)}, [][]int{{1}}, [][]int{{0}, {2}, {-1}}},
	{api.Con{Kind: api.Circuit, A: ints(0, 1, 2)}, [][]int{{2, 3, 1}, {3, 1, 2}}, [][]int{{1, 3, 2}, {2, 1, 3}, {3, 2, 1}, {1, 2, 3}, {2, 3, 4}, {2, 3, 0}, {2, 3, 2}, {2, 3, 3}, {0, 3, 1}, {2, 2, 1}, {1, 1, 1}, {-1, 2, 3}}},
	{api.Con{Kind: api.Circuit, A: ints(2, 0, 1)}, [][]int{{3, 1, 2}, {1, 2, 3}}, [][]int{{2, 3, 1}}},
	{api.Con{Kind: api.Circuit, A: ints(0, 0)}, nil, [][]int{{1}, {2}}},
	{api.Con{Kind: api.Gcc, A: ints(0, 1, 2), C: ints(1, 2), D: ints(1, 0), E: ints(2, 1)}, [][]int{{1, 1, 2}, {1, 3, 4}, {3, 2, 1}, {5, 1, 5}}, [][]int{{2, 1, 2}, {1, 1, 1}, {3, 3, 3}, {2, 3, 4}, {2, 2, 2}}},
	{api.Con{Kind: api.Gcc, A: ints(0), C: ints(4), D: ints(2), E: ints(9)}, nil, [][]int{{4}, {3}}},
	{api.Con{Kind: api.Gcc, A: ints(0, 0), C: ints(4), D: ints(2), E: ints(2)}, [][]int{{4}}, [][]int{{3}}},
	{api.Con{Kind: api.LexLe, A: ints(0, 1), B: ints(2, 3)}, [][]int{{1, 5, 1, 5}, {1, 4, 1, 5}, {1, 9, 2, 0}, {-2, 0, -1, 0}}, [][]int{{1, 6, 1, 5}, {2, 0, 1, 9}, {-1, 0, -2, 0}}},
	{api.Con{Kind: api.LexLe, A: ints(0, 1, 0), B: ints(1, 0, 1)}, [][]int{{1, 2}, {2, 2}}, [][]int{{2, 1}}},
	{api.Con{Kind: api.Inverse, A: ints(0, 1), B: ints(2, 3)}, [][]int{{2, 1, 2, 1}, {1, 2, 1, 2}}, [][]int{{2, 1, 1, 2}, {1, 2, 2, 1}, {2, 2, 2, 2}, {1, 1, 1, 1}, {0, 1, 2, 0}, {2, 3, 0, 1}, {1, 2, 1, 3}, {1, 2, 0, 2}}},
	{api.Con{Kind: api.Inverse, A: ints(0, 1, 2), B: ints(3, 4, 5)}, [][]int{{2, 3, 1, 3, 1, 2}, {1, 2, 3, 1, 2, 3}}, [][]int{{2, 3, 1, 2, 3, 1}, {2, 3, 1, 3, 1, 1}, {2, 3, 2, 3, 1, 2}, {1, 1, 1, 1, 2, 3}, {1, 2, 3, 1, 1, 1}}},
	{api.Con{Kind: api.Inverse, A: ints(0, 1, 2), B: ints(0, 1, 2)}, [][]int{{1, 2, 3}, {2, 1, 3}, {3, 2, 1}}, [][]int{{2, 3, 1}, {1, 1, 1}}},
}

func TestP9_1Examples(t *testing.T) {
	checkHolds(t, "example", api.Con{Kind: api.AllDiff, A: ints(0, 1, 2)}, ints(3, 1, 2), true)
	checkHolds(t, "example", api.Con{Kind: api.AllDiff, A: ints(0, 1, 2)}, ints(3, 1, 3), false)
	checkHolds(t, "example", api.Con{Kind: api.Circuit, A: ints(0, 1, 2)}, ints(2, 3, 1), true)
	checkHolds(t, "example", api.Con{Kind: api.Circuit, A: ints(0, 1, 2)}, ints(1, 3, 2), false)
}

func TestP9_1HoldsOfAllKinds(t *testing.T) {
	met := map[int]bool{}
	for _, x := range held {
		met[x.c.Kind] = true
		for _, a := range x.holds {
			checkHolds(t, "holds", x.c, a, true)
		}
		for _, a := range x.not {
			checkHolds(t, "doesn't hold", x.c, a, false)
		}
	}
	if len(met) != 23 {
		t.Errorf("P9.1: there are constraints of %d kinds", len(met))
	}
}

// Values beyond what the variables of a constraint need make no difference, as
// long as they are within their bounds; none may be beyond these.
func TestP9_1Bounds(t *testing.T) {
	for _, x := range held {
		for _, more := range []int{0, 1, -1, api.MaxValue, -api.MaxValue} {
			for _, a := range x.holds {
				checkHolds(t, "one value more", x.c, append(slices.Clone(a), more), true)
			}
			for _, a := range x.not {
				checkHolds(t, "one value more", x.c, append(slices.Clone(a), more), false)
			}
		}
		for _, far := range []int{api.MaxValue + 1, -api.MaxValue - 1, 1 << 32, 1<<32 + 1, math.MinInt, math.MinInt + 1, math.MaxInt} {
			for _, a := range x.holds {
				checkHolds(t, "a value beyond the bounds", x.c, append(slices.Clone(a), far), false)
				checkHolds(t, "and one more", x.c, append(slices.Clone(a), far, 0), false)
				for i := range a {
					checkHolds(t, "a value beyond the bounds", x.c, with(a, i, far), false)
				}
			}
		}
	}
	none := api.Con{Kind: api.LinEq, A: ints(0), C: ints(0)}
	checkHolds(t, "at the bound", none, ints(api.MaxValue), true)
	checkHolds(t, "at the bound", none, ints(-api.MaxValue), true)
	checkHolds(t, "beyond it", none, ints(api.MaxValue+1), false)
	checkHolds(t, "beyond it", none, ints(-api.MaxValue-1), false)
}

func TestP9_1TooFewValues(t *testing.T) {
	for _, x := range held {
		most := slices.Max(append(slices.Clone(x.c.A), x.c.B...))
		for _, a := range append(slices.Clone(x.holds), x.not...) {
			for n := range most + 1 {
				checkHolds(t, "too few values", x.c, a[:n:n], false)
			}
		}
		checkHolds(t, "no values", x.c, nil, false)
		checkHolds(t, "no values", x.c, []int{}, false)
	}
}

// A constraint that may not be holds of nothing, though its values do as its
// kind says.
func TestP9_1WrongConstraints(t *testing.T) {
	spoils := map[string]func(c *api.Con){
		"kind 0":            func(c *api.Con) { c.Kind = 0 },
		"kind 24":           func(c *api.Con) { c.Kind = 24 },
		"kind -1":           func(c *api.Con) { c.Kind = -1 },
		"least kind":        func(c *api.Con) { c.Kind = math.MinInt },
		"greatest kind":     func(c *api.Con) { c.Kind = math.MaxInt },
		"kind of 32 bits":   func(c *api.Con) { c.Kind += 1 << 32 },
		"C and more":        func(c *api.Con) { c.C = append(c.C, same(api.MaxCoef+1, api.MaxTerms+1)...) },
		"D and one more":    func(c *api.Con) { c.D = append(c.D, 0) },
		"E and one more":    func(c *api.Con) { c.E = append(c.E, 0) },
		"Rows and an empty": func(c *api.Con) { c.Rows = append(c.Rows, nil) },
		"too great K":       func(c *api.Con) { c.K = api.MaxK + 1 },
		"too little K":      func(c *api.Con) { c.K = -api.MaxK - 1 },
		"greatest K":        func(c *api.Con) { c.K = math.MaxInt },
		"least K":           func(c *api.Con) { c.K = math.MinInt },
		"no variables":      func(c *api.Con) { c.A, c.B = nil, nil },
		"too many A":        func(c *api.Con) { c.A = same(0, api.MaxTerms+1) },
		"too many B":        func(c *api.Con) { c.B = same(0, api.MaxTerms+1) },
		"a place of none":   func(c *api.Con) { c.A = append(c.A[:max(0, len(c.A)-1)], 6) },
		"a place below 0":   func(c *api.Con) { c.A = append(c.A[:max(0, len(c.A)-1)], -1) },
		"the least place":   func(c *api.Con) { c.A = append(c.A[:max(0, len(c.A)-1)], math.MinInt) },
		"the last place":    func(c *api.Con) { c.A = append(c.A[:max(0, len(c.A)-1)], math.MaxInt) },
	}
	for what, spoil := range spoils {
		for _, x := range held {
			for _, a := range x.holds {
				c := copyOf(x.c)
				spoil(&c)
				a = append(slices.Clone(a), 1, 1, 1, 1, 1, 1)[:6]
				checkHolds(t, what, c, a, false)
			}
		}
	}
	checkHolds(t, "none", api.Con{}, nil, false)
	checkHolds(t, "none", api.Con{}, ints(1, 2, 3), false)
}

// Constraints that may not be by one thing alone, with values that would do.
func TestP9_1WrongByOneThing(t *testing.T) {
	for _, c := range []api.Con{
		{Kind: api.LinLe, A: ints(0), C: ints(-api.MaxCoef - 1)},
		{Kind: api.LinLe, A: ints(0, 1), C: ints(0), K: 1},
		{Kind: api.LinLe, A: ints(0), C: ints(0, 0), K: 1},
		{Kind: api.LinNe, A: ints(0), C: ints(math.MaxInt), K: 1},
		{Kind: api.LinReif, A: ints(0), C: ints(1), K: 1},
		{Kind: api.LinReif, A: ints(0), B: ints(0, 0), C: ints(1), K: 1},
		{Kind: api.Times, A: ints(0, 0)},
		{Kind: api.Times, A: ints(0, 0, 0, 0)},
		{Kind: api.Times, A: ints(0, 0, 0), K: 1},
		{Kind: api.Times, A: ints(0, 0, 0), B: ints(0)},
		{Kind: api.Abs, A: ints(0)},
		{Kind: api.Abs, A: ints(0, 0, 0)},
		{Kind: api.Element, A: ints(0, 0)},
		{Kind: api.Element, A: ints(0, 0), C: ints(1, api.MaxCoef+1)},
		{Kind: api.Element, A: ints(0, 0), C: same(1, api.MaxTerms+1)},
		{Kind: api.Clause},
		{Kind: api.Clause, A: same(0, api.MaxTerms+1)},
		{Kind: api.EqReif, A: ints(0, 0), B: ints(0), K: 1},
		{Kind: api.EqReif, A: ints(0), K: 1},
		{Kind: api.AllDiff, A: ints(0), B: ints(1)},
		{Kind: api.AllDiff},
		{Kind: api.Table, A: ints(0)},
		{Kind: api.Table, A: ints(0), Rows: [][]int{{1}, {1, 2}}},
		{Kind: api.Table, A: ints(0), Rows: [][]int{{1}, {api.MaxCoef + 1}}},
		{Kind: api.Cumulative, A: ints(0), C: ints(-1), D: ints(0), K: 1},
		{Kind: api.Cumulative, A: ints(0), C: ints(1), D: ints(-1), K: 1},
		{Kind: api.Cumulative, A: ints(0), C: ints(0), D: ints(0), K: -1},
		{Kind: api.Cumulative, A: ints(0), C: ints(1), D: ints(api.MaxCoef + 1), K: api.MaxK},
		{Kind: api.Circuit, A: ints(0), K: 1},
		{Kind: api.Gcc, A: ints(0), C: ints(1, 1), D: ints(0, 0), E: ints(1, 1)},
		{Kind: api.Gcc, A: ints(0), C: ints(7), D: ints(0), E: ints(-1)},
		{Kind: api.Gcc, A: ints(0), C: ints(7), D: ints(-1), E: ints(0)},
		{Kind: api.Gcc, A: ints(0), C: ints(7), D: ints(1), E: ints(0)},
		{Kind: api.Gcc, A: ints(0), C: ints(1), D: ints(0), E: ints(api.MaxCoef + 1)},
		{Kind: api.LexLe, A: ints(0), B: ints(0, 0)},
		{Kind: api.LexLe, A: ints(0, 0), B: ints(0)},
		{Kind: api.LexLe, A: ints(0)},
		{Kind: api.Inverse, A: ints(0), B: ints(0, 0)},
		{Kind: api.Inverse, A: ints(0)},
	} {
		checkHolds(t, "may not be", c, ints(1, 2), false)
		checkBroken(t, "may not be", api.Model{Cons: []api.Con{c}}, ints(1, 2), 0, true)
		checkSolution(t, "may not be", api.Model{Names: []string{"x", "y"}, Doms: [][]int{{1}, {2}}, Cons: []api.Con{c}}, ints(1, 2), false)
	}
}

// Sums and products at their greatest, and some that would be another number
// in 32 bits.
func TestP9_1GreatNumbers(t *testing.T) {
	n := api.MaxTerms
	most, least := same(api.MaxValue, n), same(-api.MaxValue, n)
	coefs := same(api.MaxCoef, n)
	all := rising(0, n)
	for _, k := range []int{-api.MaxK, -1, 0, 1, api.MaxK} {
		checkHolds(t, "greatest sum", api.Con{Kind: api.LinEq, A: all, C: coefs, K: k}, most, false)
		checkHolds(t, "greatest sum", api.Con{Kind: api.LinNe, A: all, C: coefs, K: k}, most, true)
		checkHolds(t, "greatest sum", api.Con{Kind: api.LinLe, A: all, C: coefs, K: k}, most, false)
		checkHolds(t, "least sum", api.Con{Kind: api.LinLe, A: all, C: coefs, K: k}, least, true)
		checkHolds(t, "least sum", api.Con{Kind: api.LinEq, A: all, C: coefs, K: k}, least, false)
		checkHolds(t, "turned", api.Con{Kind: api.LinLe, A: all, C: same(-api.MaxCoef, n), K: k}, least, false)
		checkHolds(t, "told", api.Con{Kind: api.LinReif, A: all, C: coefs, K: k, B: ints(n)}, append(slices.Clone(most), 0), true)
		checkHolds(t, "told", api.Con{Kind: api.LinReif, A: all, C: coefs, K: k, B: ints(n)}, append(slices.Clone(least), 1), true)
	}
	atK := api.Con{Kind: api.LinEq, A: ints(0, 1), C: ints(9999, 1), K: api.MaxK}
	checkHolds(t, "MaxK", atK, ints(1000000, 999999), true)
	checkHolds(t, "MaxK less one", atK, ints(1000000, 999998), false)
	atK.Kind = api.LinLe
	checkHolds(t, "MaxK", atK, ints(1000000, 999999), true)
	checkHolds(t, "MaxK and one", atK, ints(1000000, 1000000), false)
	atK.Kind, atK.K = api.LinLe, -api.MaxK
	checkHolds(t, "-MaxK", atK, ints(-1000000, -999999), true)
	checkHolds(t, "-MaxK and one", atK, ints(-1000000, -999998), false)
	checkHolds(t, "2^32", api.Con{Kind: api.LinEq, A: ints(0, 1), C: ints(4294, 1)}, ints(1000000, 967296), false)
	checkHolds(t, "2^32", api.Con{Kind: api.LinEq, A: ints(0, 1), C: ints(4294, 1), K: 1 << 32}, ints(1000000, 967296), true)
	checkHolds(t, "2^31", api.Con{Kind: api.LinLe, A: ints(0, 1), C: ints(2147, 1)}, ints(1000000, 483648), false)
	checkHolds(t, "2^32", api.Con{Kind: api.Times, A: ints(0, 0, 1)}, ints(65536, 0), false)
	checkHolds(t, "2^32", api.Con{Kind: api.Times, A: ints(0, 1, 1)}, ints(65537, 65536), false)
	checkHolds(t, "10^12", api.Con{Kind: api.Times, A: ints(0, 0, 0)}, ints(api.MaxValue), false)
	checkHolds(t, "10^6", api.Con{Kind: api.Times, A: ints(0, 0, 1)}, ints(-1000, api.MaxValue), true)
	checkHolds(t, "10^6", api.Con{Kind: api.Div, A: ints(0, 1, 2)}, ints(-api.MaxValue, -1, api.MaxValue), true)
	checkHolds(t, "10^6", api.Con{Kind: api.Mod, A: ints(0, 1, 2)}, ints(-api.MaxValue, 999999, -1), true)
	checkHolds(t, "10^6", api.Con{Kind: api.Abs, A: ints(0, 1)}, ints(-api.MaxValue, api.MaxValue), true)
	for _, k := range []int{api.MaxK, -api.MaxK} {
		checkHolds(t, "K that is no value", api.Con{Kind: api.EqReif, A: ints(0), B: ints(1), K: k}, ints(api.MaxValue, 0), true)
		checkHolds(t, "K that is no value", api.Con{Kind: api.EqReif, A: ints(0), B: ints(1), K: k}, ints(api.MaxValue, 1), false)
	}
	checkHolds(t, "every value", api.Con{Kind: api.LeReif, A: ints(0), B: ints(1), K: api.MaxK}, ints(api.MaxValue, 1), true)
	checkHolds(t, "no value", api.Con{Kind: api.LeImp, A: ints(0), B: ints(1), K: -api.MaxK}, ints(-api.MaxValue, 1), false)
	checkHolds(t, "far rows", api.Con{Kind: api.Table, A: ints(0), Rows: [][]int{{-api.MaxCoef}, {api.MaxCoef}}}, ints(api.MaxValue), true)
}

func TestP9_1GreatTasks(t *testing.T) {
	n := api.MaxTerms
	c := api.Con{Kind: api.Cumulative, A: rising(0, n), C: same(api.MaxCoef, n), D: same(api.MaxCoef, n), K: n * api.MaxCoef}
	checkHolds(t, "all at once", c, same(api.MaxValue, n), true)
	c.K--
	checkHolds(t, "all at once", c, same(api.MaxValue, n), false)
	checkHolds(t, "all at once", c, same(-api.MaxValue, n), false)
	checkHolds(t, "one later", c, with(same(-api.MaxValue, n), n-1, 0), true)
	checkHolds(t, "one not late enough", c, with(same(-api.MaxValue, n), n-1, -1), false)
	checkHolds(t, "one earlier", c, with(same(0, n), 7, -api.MaxValue), true)
	c.K = 0
	checkHolds(t, "none may run", c, rising(0, n), false)
	c.D = same(0, n)
	checkHolds(t, "none needs anything", c, same(0, n), true)
	c.C, c.D = same(0, n), same(api.MaxCoef, n)
	checkHolds(t, "none runs", c, same(0, n), true)
}

func TestP9_1LongLists(t *testing.T) {
	n := api.MaxTerms
	all, up, down := rising(0, n), rising(1, n), rising(1, n)
	slices.Reverse(down)
	round := with(rising(2, n), n-1, 1)
	two := with(with(round, n/2-1, 1), n-1, n/2+1)
	back := with(rising(0, n), 0, n)
	for kind, want := range map[int][]bool{
		api.AllDiff: {true, true, true, true, true},
		api.Circuit: {false, false, true, false, true},
	} {
		for i, a := range [][]int{up, down, round, two, back} {
			checkHolds(t, "long "+strconv.Itoa(i), api.Con{Kind: kind, A: all}, a, want[i])
		}
	}
	for i := range n - 1 {
		checkHolds(t, "two alike", api.Con{Kind: api.AllDiff, A: all}, with(up, n-1, up[i]), false)
	}
	inverse := api.Con{Kind: api.Inverse, A: all, B: rising(n, n)}
	checkHolds(t, "itself", inverse, slices.Concat(up, up), true)
	checkHolds(t, "itself", inverse, slices.Concat(down, down), true)
	checkHolds(t, "another", inverse, slices.Concat(up, down), false)
	checkHolds(t, "there and back", inverse, slices.Concat(round, back), true)
	checkHolds(t, "there and there", inverse, slices.Concat(round, round), false)
	rows := api.Con{Kind: api.LexLe, A: all, B: rising(n, n)}
	checkHolds(t, "the last one less", rows, slices.Concat(with(up, n-1, 0), up), true)
	checkHolds(t, "the last one greater", rows, slices.Concat(with(up, n-1, 99), up), false)
	table := api.Con{Kind: api.Table, A: all}
	for i := range api.MaxRows {
		table.Rows = append(table.Rows, rising(i, n))
	}
	checkHolds(t, "the last row", table, rising(api.MaxRows-1, n), true)
	checkHolds(t, "behind it", table, rising(api.MaxRows, n), false)
	checkHolds(t, "a row but its last", table, with(rising(3, n), n-1, 0), false)
	table.Rows = append(table.Rows, rising(0, n))
	checkHolds(t, "too many rows", table, rising(0, n), false)
	checkHolds(t, "too many variables", api.Con{Kind: api.AllDiff, A: rising(0, n+1)}, rising(0, n+1), false)
	element := api.Con{Kind: api.Element, A: ints(0, 1), C: rising(-9, n)}
	checkHolds(t, "the last place", element, ints(n, n-10), true)
	checkHolds(t, "behind it", element, ints(n+1, n-10), false)
	checkHolds(t, "far behind", element, ints(api.MaxValue, n-10), false)
	checkHolds(t, "far ahead", element, ints(-api.MaxValue, -9), false)
}

// More values than a model may have variables are no matter of Right.
func TestP9_1ManyValues(t *testing.T) {
	n := 100000
	checkHolds(t, "many", api.Con{Kind: api.Abs, A: ints(n-1, n-2)}, with(with(same(7, n), n-1, -5), n-2, 5), true)
	checkHolds(t, "many", api.Con{Kind: api.Abs, A: ints(n-1, n-2)}, same(-7, n), false)
	checkHolds(t, "one too many", api.Con{Kind: api.Abs, A: ints(n, n-1)}, same(7, n), false)
	checkHolds(t, "one too great", api.Con{Kind: api.Abs, A: ints(0, 1)}, with(same(7, n), n-1, api.MaxValue+1), false)
}

// emptied: all lists that are nil are empty ones.
func emptied(c api.Con) api.Con {
	for _, l := range []*[]int{&c.A, &c.B, &c.C, &c.D, &c.E} {
		if *l == nil {
			*l = []int{}
		}
	}
	if c.Rows == nil {
		c.Rows = [][]int{}
	}
	return c
}

// behind: lists with something behind their length.
func behind(l []int) []int {
	return append(slices.Clone(l), 1, 0, 77, math.MinInt)[:len(l)]
}

// Empty lists may be nil or not; what lies behind a length is neither read nor
// written.
func TestP9_1ListsAsTheyAre(t *testing.T) {
	for _, x := range held {
		wide := copyOf(x.c)
		for _, l := range []*[]int{&wide.A, &wide.B, &wide.C, &wide.D, &wide.E} {
			*l = behind(*l)
		}
		for i := range wide.Rows {
			wide.Rows[i] = behind(wide.Rows[i])
		}
		wide.Rows = append(wide.Rows, x.c.A, nil)[:len(x.c.Rows)]
		for i, a := range append(slices.Clone(x.holds), x.not...) {
			want := i < len(x.holds)
			checkHolds(t, "empty lists", emptied(x.c), a, want)
			checkHolds(t, "behind the length", wide, behind(a), want)
		}
		for _, l := range [][]int{wide.A, wide.B, wide.C, wide.D, wide.E} {
			if !slices.Equal(l[len(l):len(l)+4], ints(1, 0, 77, math.MinInt)) {
				t.Errorf("rule 4: behind a list's length is %v", l[len(l):len(l)+4])
			}
		}
	}
}

// hold of 1, 2, 3; notHold doesn't.
var (
	hold    = api.Con{Kind: api.AllDiff, A: ints(0, 1, 2)}
	notHold = api.Con{Kind: api.LinLe, A: ints(0, 1), C: ints(1, 1), K: 2}
)

func TestP9_1Broken(t *testing.T) {
	a := ints(1, 2, 3)
	of := func(cons ...api.Con) api.Model { return api.Model{Cons: cons} }
	checkBroken(t, "none", of(), a, 0, false)
	checkBroken(t, "none, of none", of(), nil, 0, false)
	checkBroken(t, "none, of what may not be", of(), ints(math.MinInt, api.MaxValue+1), 0, false)
	checkBroken(t, "all hold", of(hold, hold, hold), a, 0, false)
	checkBroken(t, "first", of(notHold, hold, hold), a, 0, true)
	checkBroken(t, "middle", of(hold, notHold, hold), a, 1, true)
	checkBroken(t, "last", of(hold, hold, notHold), a, 2, true)
	checkBroken(t, "first of several", of(hold, notHold, hold, notHold), a, 1, true)
	checkBroken(t, "one that may not be", of(hold, hold, api.Con{}, notHold), a, 2, true)
	checkBroken(t, "one ahead of that", of(hold, notHold, api.Con{}), a, 1, true)
	checkBroken(t, "too few values", of(notHold, hold), ints(1, 1), 1, true)
	checkBroken(t, "no values", of(hold, notHold), nil, 0, true)
	checkBroken(t, "more values", of(hold, hold), ints(1, 2, 3, 3, 3), 0, false)
	checkBroken(t, "a value beyond the bounds", of(hold, notHold), ints(1, 2, api.MaxValue+1), 0, true)
	checkBroken(t, "one that is no variable's", of(hold, notHold), ints(1, 2, 3, -api.MaxValue-1), 0, true)
	checkBroken(t, "values at the bounds", of(hold, hold), ints(0, api.MaxValue, -api.MaxValue), 0, false)
}

// Of a model nothing but its constraints is looked at.
func TestP9_1BrokenOfAnyModel(t *testing.T) {
	for _, m := range []api.Model{
		{},
		{Names: []string{"x", "y", "z"}, Doms: [][]int{{1}, {2}, {3}}},
		{Names: []string{"x", "y", "z"}, Doms: [][]int{{7}, {7}, {7}}},
		{Names: []string{"x"}, Doms: [][]int{{1}}},
		{Names: []string{"x"}},
		{Names: []string{"", "var", ""}, Doms: [][]int{nil, {3, 1}, {1}}},
		{Goal: 9, Obj: 9},
		{Goal: api.Maximize, Obj: -1},
	} {
		m.Cons = []api.Con{hold, hold}
		checkBroken(t, "all hold", m, ints(1, 2, 3), 0, false)
		m.Cons = []api.Con{hold, notHold}
		checkBroken(t, "one doesn't", m, ints(1, 2, 3), 1, true)
	}
	m := api.Model{}
	for range 3 * api.MaxCons {
		m.Cons = append(m.Cons, hold)
	}
	checkBroken(t, "many", m, ints(1, 2, 3), 0, false)
	for _, at := range []int{0, 1, api.MaxCons - 1, api.MaxCons, len(m.Cons) - 1} {
		m.Cons[at] = notHold
		n, broken := Broken(m, ints(1, 2, 3))
		if n != at || !broken {
			t.Errorf("P9.1: of many: %d, %v, want %d", n, broken, at)
		}
		m.Cons[at] = hold
	}
	m.Cons = append([]api.Con{hold, hold}, notHold, api.Con{})[:2]
	checkBroken(t, "behind the length", m, ints(1, 2, 3), 0, false)
}

// Each constraint of a model is told as Holds tells it.
func TestP9_1BrokenLikeHolds(t *testing.T) {
	for _, x := range held {
		m := api.Model{Cons: []api.Con{x.c, x.c}}
		for _, a := range x.holds {
			checkBroken(t, "holds", m, a, 0, false)
		}
		for _, a := range x.not {
			checkBroken(t, "doesn't hold", m, a, 0, true)
		}
	}
}

// xyz: a model of which 1, 2, 5 is a solution.
func xyz() api.Model {
	return api.Model{
		Names: []string{"x", "y", "z"},
		Doms:  [][]int{{1, 2}, {2, 3, 5}, {-7, 2, 5}},
		Cons:  []api.Con{{Kind: api.AllDiff, A: ints(0, 1, 2)}, {Kind: api.LinLe, A: ints(0, 1), C: ints(1, 1), K: 4}},
	}
}

func TestP9_1Solution(t *testing.T) {
	for _, goal := range []int{api.Satisfy, api.Minimize, api.Maximize} {
		m := xyz()
		m.Goal = goal
		for x := -8; x <= 8; x++ {
			for y := -8; y <= 8; y++ {
				for z := -8; z <= 8; z++ {
					want := slices.Contains([][3]int{{1, 2, 5}, {1, 2, -7}, {1, 3, 5}, {1, 3, -7}, {1, 3, 2}}, [3]int{x, y, z})
					checkSolution(t, "goal "+strconv.Itoa(goal), m, ints(x, y, z), want)
				}
			}
		}
	}
	for _, a := range [][]int{nil, {}} {
		checkSolution(t, "nothing", api.Model{}, a, true)
		checkSolution(t, "nothing", api.Model{Names: []string{}, Doms: [][]int{}, Cons: []api.Con{}}, a, true)
		checkSolution(t, "no values", xyz(), a, false)
	}
	checkSolution(t, "too few", xyz(), ints(1, 2), false)
	checkSolution(t, "too many", xyz(), ints(1, 2, 5, 5), false)
	checkSolution(t, "values of no variables", api.Model{}, ints(1), false)
	m := xyz()
	m.Cons = nil
	checkSolution(t, "no constraints", m, ints(2, 2, 2), true)
	checkSolution(t, "no constraints, too few", m, ints(2, 2), false)
	checkSolution(t, "no constraints, too many", m, ints(2, 2, 2, 2), false)
	checkSolution(t, "behind the length", m, ints(2, 2, 2, 2)[:3], true)
	checkSolution(t, "a value far off", m, ints(2, 2, math.MaxInt), false)
	checkSolution(t, "a value far off", m, ints(math.MinInt, 2, 2), false)
}

func TestP9_1SolutionOfNoModel(t *testing.T) {
	for what, spoil := range map[string]func(m *api.Model){
		"ErrArg, a name more":     func(m *api.Model) { m.Names = append(m.Names, "w") },
		"ErrArg, a name less":     func(m *api.Model) { m.Names, m.Cons = m.Names[:2], nil },
		"ErrMany, variables":      func(m *api.Model) { *m = manyVars(api.MaxVars + 1) },
		"ErrMany, constraints":    func(m *api.Model) { m.Cons = slices.Repeat(m.Cons[:1], api.MaxCons+1) },
		"ErrName, no name":        func(m *api.Model) { m.Names[1] = "" },
		"ErrName, a word":         func(m *api.Model) { m.Names[1] = "solve" },
		"ErrTwice":                func(m *api.Model) { m.Names[2] = "x" },
		"ErrRange, falls":         func(m *api.Model) { m.Doms[2] = ints(5, 2) },
		"ErrRange, twice":         func(m *api.Model) { m.Doms[2] = ints(5, 5) },
		"ErrRange, too wide":      func(m *api.Model) { m.Doms[2] = ints(5, 5+api.MaxWidth) },
		"ErrRange, too far":       func(m *api.Model) { m.Doms[2] = ints(5, api.MaxValue+1) },
		"ErrKind":                 func(m *api.Model) { m.Cons[1] = api.Con{} },
		"ErrArity":                func(m *api.Model) { m.Cons[0].K = 1 },
		"ErrName of a constraint": func(m *api.Model) { m.Cons[0].A[2] = 3 },
		"ErrCoef":                 func(m *api.Model) { m.Cons[1].K = api.MaxK + 1 },
		"ErrGoal":                 func(m *api.Model) { m.Goal = 3 },
		"ErrGoal, of Obj":         func(m *api.Model) { m.Obj = 1 },
		"ErrGoal, of no variable": func(m *api.Model) { m.Goal, m.Obj = api.Minimize, 3 },
	} {
		m := copyOfModel(xyz())
		checkSolution(t, "may be", m, ints(1, 2, 5), true)
		spoil(&m)
		for n := range 6 {
			checkSolution(t, what, m, ints(1, 2, 5, 5, 5, 5)[:n], false)
		}
		checkSolution(t, what, m, same(1, len(m.Names)), false)
	}
}

// manyVars, each of them 1.
func manyVars(n int) api.Model {
	var m api.Model
	for i := range n {
		m.Names = append(m.Names, "v"+strconv.Itoa(i))
		m.Doms = append(m.Doms, ints(1))
	}
	return m
}

func TestP9_1GreatModels(t *testing.T) {
	m := manyVars(api.MaxVars)
	m.Cons = slices.Repeat([]api.Con{{Kind: api.Times, A: ints(0, 1, 2)}}, api.MaxCons)
	ones := same(1, api.MaxVars)
	checkSolution(t, "many", m, ones, true)
	checkSolution(t, "the first value", m, with(ones, 0, 2), false)
	checkSolution(t, "the last value", m, with(ones, api.MaxVars-1, 2), false)
	checkSolution(t, "one less", m, ones[1:], false)
	m.Cons[api.MaxCons-1] = api.Con{Kind: api.LinNe, A: ints(0), C: ints(1), K: 1}
	checkSolution(t, "the last constraint", m, ones, false)
	for _, low := range []int{-api.MaxValue, 0, api.MaxValue - api.MaxWidth + 1} {
		l := rising(low, api.MaxWidth)
		wide := api.Model{Names: []string{"x"}, Doms: [][]int{slices.Concat(l[:9], l[10:])}}
		for _, x := range []struct {
			at   int
			want bool
		}{{-1, false}, {0, true}, {1, true}, {8, true}, {9, false}, {10, true}, {api.MaxWidth / 2, true}, {api.MaxWidth - 2, true}, {api.MaxWidth - 1, true}, {api.MaxWidth, false}, {math.MaxInt - api.MaxValue, false}, {math.MinInt + api.MaxValue, false}} {
			checkSolution(t, "wide", wide, ints(low+x.at), x.want)
		}
	}
}
