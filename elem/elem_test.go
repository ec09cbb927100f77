package elem

import (
	"fmt"
	"math"
	"reflect"
	"slices"
	"testing"

	"jigsaw/api"
	"jigsaw/dom"
	"jigsaw/model"
)

func ints(v ...int) []int { return v }

// from low to high, all numbers.
func from(low, high int) []int {
	var l []int
	for v := low; v <= high; v++ {
		l = append(l, v)
	}
	return l
}

// domains of lists; the empty one of an empty list.
func domains(t *testing.T, lists [][]int) []dom.Dom {
	t.Helper()
	l := make([]dom.Dom, len(lists))
	for i, list := range lists {
		d, e := dom.Of(list)
		if e != api.OK && e != api.ErrEmpty {
			t.Fatalf("no domain: %.100s", fmt.Sprint(list))
		}
		l[i] = d
	}
	return l
}

// listsOf domains.
func listsOf(d []dom.Dom) [][]int {
	l := make([][]int, len(d))
	for i := range d {
		l[i] = d[i].List()
	}
	return l
}

// equalLists: are they the same, in order?
func equalLists(a, b [][]int) bool {
	return slices.EqualFunc(a, b, func(x, y []int) bool { return slices.Equal(x, y) })
}

// copyOf a constraint, that shares nothing with it.
func copyOf(c api.Con) api.Con {
	c.A, c.B = slices.Clone(c.A), slices.Clone(c.B)
	c.C, c.D, c.E = slices.Clone(c.C), slices.Clone(c.D), slices.Clone(c.E)
	c.Rows = slices.Clone(c.Rows)
	for i := range c.Rows {
		c.Rows[i] = slices.Clone(c.Rows[i])
	}
	return c
}

// made: a constraint of a row, its variables one after the other.
func made(row []int) api.Con {
	return api.Con{Kind: api.Element, A: ints(0, 1), C: row}
}

// checkFilter holds Filter against what it should tell (nothing and false, if
// want is nil), and what it is handed against what that was.
func checkFilter(t *testing.T, what string, c api.Con, lists, want [][]int) {
	t.Helper()
	// Behind the length there is something that must not be asked, nor changed.
	behind := domains(t, [][]int{{7}, {8, 9}})
	d := append(domains(t, lists), behind...)
	c2, d2 := copyOf(c), listsOf(d)
	left, ok := Filter(c, d[:len(lists)])
	got := listsOf(left)
	if ok != (want != nil) || !equalLists(got, want) {
		t.Errorf("%s: Filter(%.300s, %.300s): %.300s, %v, want %.300s", what, fmt.Sprint(c), fmt.Sprint(lists), fmt.Sprint(got), ok, fmt.Sprint(want))
	}
	if !reflect.DeepEqual(c, c2) || !equalLists(listsOf(d), d2) {
		t.Errorf("rule 4: %s: %.300s, %.300s became %.300s, %.300s", what, fmt.Sprint(c2), fmt.Sprint(d2), fmt.Sprint(c), fmt.Sprint(listsOf(d)))
	}
}

// filtered: what is left of two domains, nil if there is nothing.
type filtered struct {
	what  string
	row   []int
	lists [][]int
	want  [][]int
}

func checkAll(t *testing.T, all []filtered) {
	t.Helper()
	for _, f := range all {
		checkFilter(t, "P13.1: "+f.what, made(f.row), f.lists, f.want)
	}
}

func TestP13_1Filter(t *testing.T) {
	checkAll(t, []filtered{
		{"the example", ints(5, 7), [][]int{from(0, 3), {5, 6}}, [][]int{{1}, {5}}},
		{"all", ints(5, 7), [][]int{{1, 2}, {5, 7}}, [][]int{{1, 2}, {5, 7}}},
		{"places about the row", ints(5, 7, 6), [][]int{from(-9, 9), from(5, 7)}, [][]int{{1, 2, 3}, {5, 6, 7}}},
		{"the place 0", ints(5, 7), [][]int{{0, 2}, {5, 7}}, [][]int{{2}, {7}}},
		{"the place behind the last", ints(5, 7), [][]int{{1, 3}, {5, 7}}, [][]int{{1}, {5}}},
		{"the last place", ints(5, 7, 9), [][]int{{3, 4}, from(0, 9)}, [][]int{{3}, {9}}},
		{"no place of the row", ints(5, 7), [][]int{{0, 3}, from(0, 9)}, nil},
		{"places below 0", ints(5, 7), [][]int{{-2, -1}, from(0, 9)}, nil},
		{"a place goes for its value", ints(5, 7, 9), [][]int{{1, 2, 3}, {5, 8, 9}}, [][]int{{1, 3}, {5, 9}}},
		{"a value goes for its place", ints(5, 7, 9), [][]int{{1, 3}, from(5, 9)}, [][]int{{1, 3}, {5, 9}}},
		{"both go", ints(5, 7, 9, 11), [][]int{{1, 2, 3}, {7, 9, 11}}, [][]int{{2, 3}, {7, 9}}},
		{"a value at a place that is not asked", ints(5, 7), [][]int{{1}, {7}}, nil},
		{"the value between", ints(5, 7), [][]int{{1, 2}, {6}}, nil},
		{"values beside the row", ints(5, 7), [][]int{{1, 2}, {4, 8}}, nil},
		{"a value at several places", ints(5, 7, 5), [][]int{from(0, 9), from(0, 9)}, [][]int{{1, 2, 3}, {5, 7}}},
		{"a value at several places alone", ints(5, 7, 5), [][]int{from(0, 9), {5}}, [][]int{{1, 3}, {5}}},
		{"a value at one of its places", ints(5, 7, 5), [][]int{{2, 3}, {5, 6}}, [][]int{{3}, {5}}},
		{"one value everywhere", ints(4, 4, 4), [][]int{from(-1, 5), from(0, 9)}, [][]int{{1, 2, 3}, {4}}},
		{"a row of one", ints(3), [][]int{{0, 1, 2}, {2, 3}}, [][]int{{1}, {3}}},
		{"a row of one, another place", ints(3), [][]int{{0, 2}, {2, 3}}, nil},
		{"a row that falls", ints(9, 4, -2), [][]int{{1, 3}, from(-9, 9)}, [][]int{{1, 3}, {-2, 9}}},
		{"below 0", ints(-5, -7), [][]int{{1, 2}, {-7, 5, 7}}, [][]int{{2}, {-7}}},
		{"the value 0", ints(0, 0, 1), [][]int{{1, 2, 3}, {0}}, [][]int{{1, 2}, {0}}},
		{"the places themselves", ints(1, 2, 3), [][]int{{1, 3}, {2, 3}}, [][]int{{3}, {3}}},
		{"one value each", ints(5, 7), [][]int{{2}, {7}}, [][]int{{2}, {7}}},
		{"one value each, of another place", ints(5, 7), [][]int{{2}, {5}}, nil},
		{"one value each, no place", ints(5, 7), [][]int{{0}, {5}}, nil},
		{"one value each, behind the last", ints(5, 7), [][]int{{3}, {7}}, nil},
	})
}

// The longest row, the widest domains, and the greatest and least numbers
// that may be.
func TestP13_1Limits(t *testing.T) {
	const last = api.MaxTerms
	row := make([]int, last)
	for i := range row {
		row[i] = 1000 * i
	}
	wide := from(-1, api.MaxWidth-2)
	top, bottom := from(api.MaxValue-api.MaxWidth+1, api.MaxValue), from(-api.MaxValue, -api.MaxValue+api.MaxWidth-1)
	ends := ints(api.MaxCoef, 0, -api.MaxCoef)
	checkAll(t, []filtered{
		{"the longest row", row, [][]int{wide, wide}, [][]int{from(1, last), row}},
		{"its last place", row, [][]int{from(last, last+9), wide}, [][]int{{last}, {63000}}},
		{"behind its last place", row, [][]int{from(last+1, last+9), wide}, nil},
		{"its last value", row, [][]int{wide, {62999, 63000}}, [][]int{{last}, {63000}}},
		{"the greatest", ends, [][]int{wide, top}, [][]int{{1}, {api.MaxCoef}}},
		{"the least", ends, [][]int{wide, bottom}, [][]int{{3}, {-api.MaxCoef}}},
		{"a row that is wider than a domain", ends, [][]int{wide, wide}, [][]int{{2}, {0}}},
		{"the greatest places", ends, [][]int{top, wide}, nil},
		{"the least places", ends, [][]int{bottom, wide}, nil},
	})
	longer := append(slices.Clone(row), 0)
	checkFilter(t, "P13.1: a row that is too long", made(longer), [][]int{{1}, {0}}, nil)
}

// Each variable is a place from 0 to below MaxVars; where one stands twice,
// each domain is one by itself.
func TestP13_1Variables(t *testing.T) {
	c := made(ints(2, 1))
	for _, a := range [][]int{{0, 0}, {1, 0}, {5, 5}, {api.MaxVars - 1, 7}, {0, api.MaxVars - 1}} {
		c.A = a
		checkFilter(t, "P13.1: other variables", c, [][]int{{1, 2}, {1, 2}}, [][]int{{1, 2}, {1, 2}})
		checkFilter(t, "P13.1: other variables", c, [][]int{{1, 2}, {2}}, [][]int{{1}, {2}})
	}
}

// What is wrong: nothing and false.
func TestP13_1Wrong(t *testing.T) {
	lists := [][]int{{1, 2}, {5, 7}}
	c := made(ints(5, 7))
	wrong := func(what string, change func(c *api.Con)) {
		t.Helper()
		c := copyOf(c)
		change(&c)
		checkFilter(t, "P13.1: "+what, c, lists, nil)
		// The wrong constraint may have another number of variables: with
		// just so many domains it is as wrong.
		n := len(c.A) + len(c.B)
		checkFilter(t, "P13.1: "+what, c, slices.Repeat(lists, 2)[:n], nil)
	}
	wrong("an A less", func(c *api.Con) { c.A = c.A[:1] })
	wrong("an A more", func(c *api.Con) { c.A = append(c.A, 3) })
	wrong("no A", func(c *api.Con) { c.A = nil })
	wrong("a B", func(c *api.Con) { c.B = ints(3) })
	wrong("a B for an A", func(c *api.Con) { c.A, c.B = c.A[:1], ints(1) })
	wrong("no C", func(c *api.Con) { c.C = nil })
	wrong("a D", func(c *api.Con) { c.D = ints(1) })
	wrong("an E", func(c *api.Con) { c.E = ints(1) })
	wrong("a K", func(c *api.Con) { c.K = 1 })
	wrong("a row", func(c *api.Con) { c.Rows = [][]int{{}} })
	for _, place := range []int{-1, api.MaxVars, math.MaxInt, math.MinInt} {
		for i := range c.A {
			wrong("a place that is none", func(c *api.Con) { c.A[i] = place })
		}
	}
	for _, v := range []int{api.MaxCoef + 1, -api.MaxCoef - 1, math.MaxInt, math.MinInt} {
		for i := range c.C {
			wrong("a number beyond its bounds", func(c *api.Con) { c.C[i] = v })
		}
		wrong("a number beyond its bounds at no place that is asked", func(c *api.Con) { c.C = append(c.C, v) })
	}
	for i := range lists {
		empty := slices.Clone(lists)
		empty[i] = nil
		checkFilter(t, "P13.1: an empty domain", c, empty, nil)
		checkFilter(t, "P13.1: a domain less", c, slices.Delete(slices.Clone(lists), i, i+1), nil)
		checkFilter(t, "P13.1: a domain more", c, slices.Insert(slices.Clone(lists), i, ints(1, 2)), nil)
	}
	checkFilter(t, "P13.1: a domain more", c, append(slices.Clone(lists), ints(1, 2)), nil)
	checkFilter(t, "P13.1: an empty domain more", c, append(slices.Clone(lists), nil), nil)
	checkFilter(t, "P13.1: empty domains", c, [][]int{nil, nil}, nil)
	checkFilter(t, "P13.1: no domains", c, nil, nil)
	checkFilter(t, "P13.1: no constraint", api.Con{}, lists, nil)
}

// What lies behind a list's length is not there: neither in A nor in C.
func TestBehindTheLength(t *testing.T) {
	c := api.Con{Kind: api.Element, A: ints(0, 1, -1)[:2], C: ints(5, 7, 9, math.MaxInt)[:2]}
	checkFilter(t, "rule 4: behind the length", c, [][]int{from(1, 4), from(5, 9)}, [][]int{{1, 2}, {5, 7}})
	c.A = c.A[:1]
	checkFilter(t, "rule 4: behind the length", c, [][]int{from(1, 4), from(5, 9)}, nil)
	c.A, c.C = ints(0, 1), c.C[:0]
	checkFilter(t, "rule 4: behind the length", c, [][]int{from(1, 4), from(5, 9)}, nil)
}

// others: constraints that may be, of all kinds of other layers.
func others() []api.Con {
	return []api.Con{
		{Kind: api.LinEq, A: ints(0, 1), C: ints(1, -1)}, {Kind: api.LinLe, A: ints(0, 1), C: ints(1, 1), K: 9},
		{Kind: api.LinNe, A: ints(0, 1), C: ints(1, 1)}, {Kind: api.LinReif, A: ints(0), B: ints(1), C: ints(1)},
		{Kind: api.Times, A: ints(0, 1, 2)}, {Kind: api.Div, A: ints(0, 1, 2)}, {Kind: api.Mod, A: ints(0, 1, 2)},
		{Kind: api.Abs, A: ints(0, 1)}, {Kind: api.Min, A: ints(0, 1, 2)}, {Kind: api.Max, A: ints(0, 1, 2)},
		{Kind: api.Clause, A: ints(0), B: ints(1)},
		{Kind: api.EqReif, A: ints(0), B: ints(1), K: 1}, {Kind: api.LeReif, A: ints(0), B: ints(1), K: 1},
		{Kind: api.EqImp, A: ints(0), B: ints(1), K: 1}, {Kind: api.LeImp, A: ints(0), B: ints(1), K: 1},
		{Kind: api.AllDiff, A: ints(0, 1)}, {Kind: api.Table, A: ints(0, 1), Rows: [][]int{{1, 1}}},
		{Kind: api.Cumulative, A: ints(0, 1), C: ints(1, 1), D: ints(1, 1), K: 9}, {Kind: api.Circuit, A: ints(0, 1)},
		{Kind: api.Gcc, A: ints(0, 1), C: ints(1, 2), D: ints(0, 0), E: ints(2, 2)},
		{Kind: api.LexLe, A: ints(0), B: ints(1)}, {Kind: api.Inverse, A: ints(0), B: ints(1)},
	}
}

func TestP13_1OtherKinds(t *testing.T) {
	for _, c := range others() {
		if e := model.Right(c, api.MaxVars); e != api.OK {
			t.Fatalf("%v: %v", c, e)
		}
		checkFilter(t, "P13.1: another kind", c, slices.Repeat([][]int{{0, 1, 2}}, len(c.A)+len(c.B)), nil)
	}
	if len(others()) != api.Inverse-1 {
		t.Errorf("there are %d other kinds", len(others()))
	}
	for _, kind := range []int{0, -1, api.Inverse + 1, math.MinInt, math.MaxInt} {
		c := made(ints(1, 2))
		c.Kind = kind
		checkFilter(t, "P13.1: no kind", c, [][]int{{1, 2}, {1, 2}}, nil)
	}
}

// An answer is its own, and nothing is kept from call to call.
func TestAnswersAreNew(t *testing.T) {
	for _, lists := range [][][]int{{{1, 2}, {5, 7}}, {from(0, 9), from(0, 9)}} {
		row := ints(5, 7)
		d := domains(t, lists)
		left, ok := Filter(made(row), d)
		want := listsOf(left)
		if !ok {
			t.Fatalf("%v: nothing is left", lists)
		}
		clear(left)
		if !equalLists(listsOf(d), lists) {
			t.Errorf("rule 4: what is told shares memory with what is handed in")
		}
		again, ok := Filter(made(row), d)
		if !ok || !equalLists(listsOf(again), want) {
			t.Errorf("rule 7: %v, then %v", want, listsOf(again))
		}
		clear(d)
		clear(row)
		if !equalLists(listsOf(again), want) {
			t.Errorf("rule 4: what is told hangs on what is handed in")
		}
	}
}
