package lin

import (
	"fmt"
	"math"
	"reflect"
	"slices"
	"testing"

	"jigsaw/api"
	"jigsaw/dom"
	"jigsaw/model"
)

func ints(v ...int) []int { return v }

// from low to high, all numbers.
func from(low, high int) []int {
	var l []int
	for v := low; v <= high; v++ {
		l = append(l, v)
	}
	return l
}

// same thing, so many times.
func same[T any](v T, n int) []T {
	l := make([]T, n)
	for i := range l {
		l[i] = v
	}
	return l
}

// domains of lists; the empty one of an empty list.
func domains(t *testing.T, lists [][]int) []dom.Dom {
	t.Helper()
	l := make([]dom.Dom, len(lists))
	for i, list := range lists {
		d, e := dom.Of(list)
		if e != api.OK && e != api.ErrEmpty {
			t.Fatalf("no domain: %.100s", fmt.Sprint(list))
		}
		l[i] = d
	}
	return l
}

// listsOf domains.
func listsOf(d []dom.Dom) [][]int {
	l := make([][]int, len(d))
	for i := range d {
		l[i] = d[i].List()
	}
	return l
}

// equalLists: are they the same, in order?
func equalLists(a, b [][]int) bool {
	return slices.EqualFunc(a, b, func(x, y []int) bool { return slices.Equal(x, y) })
}

// copyOf a constraint, that shares nothing with it.
func copyOf(c api.Con) api.Con {
	c.A, c.B = slices.Clone(c.A), slices.Clone(c.B)
	c.C, c.D, c.E = slices.Clone(c.C), slices.Clone(c.D), slices.Clone(c.E)
	c.Rows = slices.Clone(c.Rows)
	for i := range c.Rows {
		c.Rows[i] = slices.Clone(c.Rows[i])
	}
	return c
}

// linear constraint, the variables one after the other.
func linear(kind, k int, coefs ...int) api.Con {
	c := api.Con{Kind: kind, C: coefs, K: k}
	for i := range coefs {
		c.A = append(c.A, i)
	}
	if kind == api.LinReif {
		c.B = ints(len(coefs))
	}
	return c
}

// checkFilter holds Filter against what it should tell (nothing and false, if
// want is nil), and what it is handed against what that was. It answers what
// was left.
func checkFilter(t *testing.T, what string, c api.Con, lists, want [][]int) [][]int {
	t.Helper()
	// Behind the length there is something that must not be asked, nor changed.
	behind := domains(t, [][]int{{7}, {8, 9}})
	d := append(domains(t, lists), behind...)
	c2, d2 := copyOf(c), listsOf(d)
	left, ok := Filter(c, d[:len(lists)])
	got := listsOf(left)
	if ok != (want != nil) || !equalLists(got, want) {
		t.Errorf("%s: Filter(%.300s, %.300s): %.300s, %v, want %.300s", what, fmt.Sprint(c), fmt.Sprint(lists), fmt.Sprint(got), ok, fmt.Sprint(want))
	}
	if !reflect.DeepEqual(c, c2) || !equalLists(listsOf(d), d2) {
		t.Errorf("rule 4: %s: %.300s, %.300s became %.300s, %.300s", what, fmt.Sprint(c2), fmt.Sprint(d2), fmt.Sprint(c), fmt.Sprint(listsOf(d)))
	}
	return got
}

// filtered: what is left of domains, nil if there is nothing.
type filtered struct {
	what  string
	c     api.Con
	lists [][]int
	want  [][]int
}

func checkAll(t *testing.T, all []filtered) {
	t.Helper()
	for _, f := range all {
		checkFilter(t, "P10.1: "+f.what, f.c, f.lists, f.want)
	}
}

func TestP10_1LinLe(t *testing.T) {
	le := func(k int, coefs ...int) api.Con { return linear(api.LinLe, k, coefs...) }
	all := [][]int{from(1, 9), from(1, 9)}
	checkAll(t, []filtered{
		{"the example", le(12, 2, 3), all, [][]int{from(1, 4), from(1, 3)}},
		{"all can be", le(18, 1, 1), all, all},
		{"all but the greatest together", le(17, 1, 1), all, all},
		{"one less than one may have", le(9, 1, 1), all, [][]int{from(1, 8), from(1, 8)}},
		{"the least together", le(2, 1, 1), all, [][]int{{1}, {1}}},
		{"one less than the least", le(1, 1, 1), all, nil},
		{"one below 0", le(-12, 2, -3), all, [][]int{from(1, 7), from(5, 9)}},
		{"both below 0", le(-12, -2, -3), all, all},
		{"both below 0, some left out", le(-40, -2, -3), all, [][]int{from(7, 9), from(8, 9)}},
		{"both below 0, all at their greatest", le(-45, -2, -3), all, [][]int{{9}, {9}}},
		{"both below 0, more than they can", le(-46, -2, -3), all, nil},
		{"rounded down", le(13, 2, 3), all, [][]int{from(1, 5), from(1, 3)}},
		{"rounded down below 0", le(-7, 2), [][]int{from(-9, 9)}, [][]int{from(-9, -4)}},
		{"rounded up", le(-7, -2), [][]int{from(-9, 9)}, [][]int{from(4, 9)}},
		{"rounded up below 0", le(7, -2), [][]int{from(-9, 9)}, [][]int{from(-3, 9)}},
		{"gaps", le(9, 1, 1), [][]int{{-5, 0, 4, 7}, {4, 5, 12, 13, 14, 20}}, [][]int{{-5, 0, 4}, {4, 5, 12, 13, 14}}},
		{"gaps at the other end", le(-9, -1, -1), [][]int{{-20, 0, 4, 7}, {-3, 2, 5, 8}}, [][]int{{4, 7}, {2, 5, 8}}},
		{"0", le(0, 0), [][]int{{1, 2}}, [][]int{{1, 2}}},
		{"0 is too much", le(-1, 0), [][]int{{1, 2}}, nil},
		{"0 beside another", le(3, 0, 1), [][]int{{-9, 9}, {2, 3, 4}}, [][]int{{-9, 9}, {2, 3}}},
		{"0 beside another that is too much", le(1, 0, 1), [][]int{{-9, 9}, {2, 3, 4}}, nil},
		{"one value each", le(5, 1, 1), [][]int{{2}, {3}}, [][]int{{2}, {3}}},
		{"one value each, too much", le(4, 1, 1), [][]int{{2}, {3}}, nil},
		{"by the domains that were given", le(6, 1, 1, 1), [][]int{from(0, 9), from(1, 9), from(2, 9)}, [][]int{from(0, 3), from(1, 4), from(2, 5)}},
		{"one variable, several domains", api.Con{Kind: api.LinLe, A: ints(7, 7), C: ints(1, 1), K: 3}, [][]int{{1, 2}, from(1, 5)}, [][]int{{1, 2}, {1, 2}}},
		{"one variable, against itself", api.Con{Kind: api.LinLe, A: ints(7, 7), C: ints(1, -1), K: -1}, [][]int{{1, 2}, {1, 2}}, [][]int{{1}, {2}}},
	})
}

func TestP10_1LinEq(t *testing.T) {
	eq := func(k int, coefs ...int) api.Con { return linear(api.LinEq, k, coefs...) }
	checkAll(t, []filtered{
		{"both bounds", eq(5, 1, 1), [][]int{from(1, 9), from(3, 9)}, [][]int{{1, 2}, {3, 4}}},
		{"no more than bounds", eq(4, 1, 1), [][]int{from(1, 3), {1, 3}}, [][]int{from(1, 3), {1, 3}}},
		{"again and again", eq(0, 1, -1), [][]int{{1, 4, 9}, {3, 4, 8}}, [][]int{{4}, {4}}},
		{"again, down from above", eq(0, 1, -1), [][]int{{0, 1, 4, 7, 10}, {0, 3, 6, 9}}, [][]int{{0}, {0}}},
		{"again, up from below", eq(0, 1, -1), [][]int{{0, 3, 6, 9, 12}, {2, 5, 8, 12}}, [][]int{{12}, {12}}},
		{"again, up to nothing", eq(0, 1, -1), [][]int{{0, 2, 4, 6}, {1, 3, 5, 7}}, nil},
		{"the lower bound alone", eq(18, 1, 1), [][]int{from(1, 9), from(1, 9)}, [][]int{{9}, {9}}},
		{"the upper bound alone", eq(2, 1, 1), [][]int{from(1, 9), from(1, 9)}, [][]int{{1}, {1}}},
		{"too little", eq(1, 1, 1), [][]int{from(1, 9), from(1, 9)}, nil},
		{"too much", eq(19, 1, 1), [][]int{from(1, 9), from(1, 9)}, nil},
		{"rounded", eq(7, 2, 3), [][]int{from(-9, 9), from(0, 3)}, [][]int{from(-1, 2), from(1, 3)}},
		{"rounded, below 0", eq(-7, -2, 3), [][]int{from(-9, 9), from(-3, 0)}, [][]int{from(-1, 2), from(-3, -1)}},
		{"no whole number", eq(5, 2), [][]int{from(1, 9)}, nil},
		{"no whole numbers", eq(7, 2, 2), [][]int{from(0, 3), from(0, 3)}, nil},
		{"one value", eq(6, 2), [][]int{from(1, 9)}, [][]int{{3}}},
		{"one value in a gap", eq(6, 2), [][]int{{1, 2, 4, 5}}, nil},
		{"0", eq(0, 0), [][]int{{1, 2}}, [][]int{{1, 2}}},
		{"0 isn't above it", eq(1, 0), [][]int{{1, 2}}, nil},
		{"0 isn't below it", eq(-1, 0), [][]int{{1, 2}}, nil},
		{"0 beside another", eq(6, 0, 2), [][]int{{-9, 9}, from(1, 9)}, [][]int{{-9, 9}, {3}}},
		{"one value each", eq(5, 1, 1), [][]int{{2}, {3}}, [][]int{{2}, {3}}},
		{"one value each, one more", eq(4, 1, 1), [][]int{{2}, {3}}, nil},
		{"one value each, one less", eq(6, 1, 1), [][]int{{2}, {3}}, nil},
		{"three", eq(10, 1, 2, -1), [][]int{from(0, 4), from(0, 4), from(0, 4)}, [][]int{from(2, 4), from(3, 4), from(0, 2)}},
		{"one variable, several domains", api.Con{Kind: api.LinEq, A: ints(7, 7), C: ints(1, -1), K: 1}, [][]int{from(1, 3), from(1, 3)}, [][]int{{2, 3}, {1, 2}}},
	})
}

func TestP10_1LinNe(t *testing.T) {
	ne := func(k int, coefs ...int) api.Con { return linear(api.LinNe, k, coefs...) }
	checkAll(t, []filtered{
		{"the greatest", ne(5, 1, 2), [][]int{from(1, 3), {1}}, [][]int{{1, 2}, {1}}},
		{"the least", ne(3, 1, 2), [][]int{from(1, 3), {1}}, [][]int{{2, 3}, {1}}},
		{"between", ne(4, 1, 2), [][]int{from(1, 3), {1}}, [][]int{{1, 3}, {1}}},
		{"above", ne(6, 1, 2), [][]int{from(1, 3), {1}}, [][]int{from(1, 3), {1}}},
		{"below", ne(2, 1, 2), [][]int{from(1, 3), {1}}, [][]int{from(1, 3), {1}}},
		{"in a gap", ne(4, 1, 2), [][]int{{1, 3}, {1}}, [][]int{{1, 3}, {1}}},
		{"the last one open", ne(6, 1, 2), [][]int{{2}, from(1, 3)}, [][]int{{2}, {1, 3}}},
		{"one in the middle open", ne(1, 3, -2, 5), [][]int{{2}, from(-9, 9), {-3}}, [][]int{{2}, slices.DeleteFunc(from(-9, 9), func(v int) bool { return v == -5 }), {-3}}},
		{"one of two values", ne(2, 1), [][]int{{2, 5}}, [][]int{{5}}},
		{"two open", ne(5, 1, 2), [][]int{from(1, 3), {1, 2}}, [][]int{from(1, 3), {1, 2}}},
		{"two of three open", ne(5, 1, 2, 1), [][]int{from(1, 3), {1}, {1, 2}}, [][]int{from(1, 3), {1}, {1, 2}}},
		{"two open, one by 0", ne(5, 0, 1), [][]int{{1, 2}, {5, 6}}, [][]int{{1, 2}, {5, 6}}},
		{"two open, both by 0", ne(0, 0, 0), [][]int{{1, 2}, {5, 6}}, [][]int{{1, 2}, {5, 6}}},
		{"open by 0, each value of which makes it", ne(0, 0), [][]int{from(1, 3)}, nil},
		{"open by 0, beside another that makes it", ne(8, 0, 2), [][]int{from(1, 3), {4}}, nil},
		{"open by 0, beside another that doesn't", ne(8, 0, 2), [][]int{from(1, 3), {5}}, [][]int{from(1, 3), {5}}},
		{"one value by 0 beside an open one", ne(8, 0, 2), [][]int{{3}, from(3, 5)}, [][]int{{3}, {3, 5}}},
		{"no whole number", ne(5, 2), [][]int{from(1, 3)}, [][]int{from(1, 3)}},
		{"no whole number below 0", ne(-5, 2), [][]int{from(-3, 3)}, [][]int{from(-3, 3)}},
		{"cut towards 0 it isn't", ne(1, 2), [][]int{from(-1, 1)}, [][]int{from(-1, 1)}},
		{"below 0", ne(6, -2), [][]int{from(-4, 4)}, [][]int{{-4, -2, -1, 0, 1, 2, 3, 4}}},
		{"0 of another", ne(0, 3), [][]int{from(-1, 1)}, [][]int{{-1, 1}}},
		{"one value each", ne(5, 1, 2), [][]int{{3}, {1}}, nil},
		{"one value each, another sum", ne(4, 1, 2), [][]int{{3}, {1}}, [][]int{{3}, {1}}},
		{"one value each, by 0", ne(0, 0, 0), [][]int{{3}, {1}}, nil},
		{"one value each, the first by 0", ne(2, 0, 2), [][]int{{3}, {1}}, nil},
		{"one value each, the first by 0, another sum", ne(3, 0, 2), [][]int{{3}, {1}}, [][]int{{3}, {1}}},
		{"one variable, several domains", api.Con{Kind: api.LinNe, A: ints(7, 7), C: ints(1, 1), K: 4}, [][]int{from(1, 3), {2}}, [][]int{{1, 3}, {2}}},
	})
}

func TestP10_1LinReif(t *testing.T) {
	reif := func(k int, coefs ...int) api.Con { return linear(api.LinReif, k, coefs...) }
	nine := from(1, 9)
	checkAll(t, []filtered{
		{"0 and 1", reif(5, 1), [][]int{nine, from(-1, 3)}, [][]int{nine, {0, 1}}},
		{"0 and 1 alone", reif(5, 1), [][]int{nine, {0, 1}}, [][]int{nine, {0, 1}}},
		{"gaps in what tells", reif(5, 1), [][]int{nine, {-64, 0, 1, 64}}, [][]int{nine, {0, 1}}},
		{"told 1", reif(5, 1), [][]int{nine, {1}}, [][]int{from(1, 5), {1}}},
		{"told 1, not 0", reif(5, 1), [][]int{nine, {-1, 1, 2}}, [][]int{from(1, 5), {1}}},
		{"told 0", reif(5, 1), [][]int{nine, {0}}, [][]int{from(6, 9), {0}}},
		{"told 0, not 1", reif(5, 1), [][]int{nine, {-1, 0, 2}}, [][]int{from(6, 9), {0}}},
		{"told 2", reif(5, 1), [][]int{nine, {2}}, nil},
		{"told -1", reif(5, 1), [][]int{nine, {-1}}, nil},
		{"told what isn't", reif(5, 1), [][]int{nine, {-1, 2}}, nil},
		{"it is for sure", reif(5, 1), [][]int{from(1, 5), {0, 1}}, [][]int{from(1, 5), {1}}},
		{"it may not be, by one", reif(4, 1), [][]int{from(1, 5), {0, 1}}, [][]int{from(1, 5), {0, 1}}},
		{"it is for sure, told 0", reif(5, 1), [][]int{from(1, 5), {0}}, nil},
		{"it may not be, by one, told 0", reif(4, 1), [][]int{from(1, 5), {0}}, [][]int{{5}, {0}}},
		{"it isn't for sure", reif(5, 1), [][]int{from(6, 9), {0, 1}}, [][]int{from(6, 9), {0}}},
		{"it may be, by one", reif(6, 1), [][]int{from(6, 9), {0, 1}}, [][]int{from(6, 9), {0, 1}}},
		{"it isn't for sure, told 1", reif(5, 1), [][]int{from(6, 9), {1}}, nil},
		{"it may be, by one, told 1", reif(6, 1), [][]int{from(6, 9), {1}}, [][]int{{6}, {1}}},
		{"it is for sure, told 2", reif(5, 1), [][]int{from(1, 5), {0, 2}}, nil},
		{"it isn't for sure, told 2", reif(5, 1), [][]int{from(6, 9), {1, 2}}, nil},
		{"several, told 1", reif(12, 2, 3), [][]int{nine, nine, {1}}, [][]int{from(1, 4), from(1, 3), {1}}},
		{"several, told 0", reif(38, 2, 3), [][]int{nine, nine, {0}}, [][]int{from(6, 9), from(7, 9), {0}}},
		{"several, told 0, below 0", reif(-10, 2, -3), [][]int{nine, nine, {0}}, [][]int{nine, from(1, 9), {0}}},
		{"several, told 0, some below 0", reif(10, 2, -3), [][]int{nine, nine, {0}}, [][]int{from(7, 9), from(1, 2), {0}}},
		{"several, for sure", reif(45, 2, 3), [][]int{nine, nine, {0, 1}}, [][]int{nine, nine, {1}}},
		{"several, not for sure", reif(44, 2, 3), [][]int{nine, nine, {0, 1}}, [][]int{nine, nine, {0, 1}}},
		{"several, below 0", reif(-26, 2, -3), [][]int{nine, nine, {0, 1}}, [][]int{nine, nine, {0}}},
		{"several, below 0, by one", reif(-25, 2, -3), [][]int{nine, nine, {0, 1}}, [][]int{nine, nine, {0, 1}}},
		{"by 0, it is", reif(0, 0), [][]int{nine, {0, 1}}, [][]int{nine, {1}}},
		{"by 0, it isn't", reif(-1, 0), [][]int{nine, {0, 1}}, [][]int{nine, {0}}},
		{"gaps, told 1", reif(5, 1), [][]int{{1, 4, 8, 9}, {1}}, [][]int{{1, 4}, {1}}},
		{"gaps, told 0", reif(5, 1), [][]int{{1, 4, 8, 9}, {0}}, [][]int{{8, 9}, {0}}},
		{"one value each, it is", reif(5, 1), [][]int{{5}, {1}}, [][]int{{5}, {1}}},
		{"one value each, it isn't", reif(5, 1), [][]int{{6}, {0}}, [][]int{{6}, {0}}},
		{"one value each, told 0 of what is", reif(5, 1), [][]int{{5}, {0}}, nil},
		{"one value each, told 1 of what isn't", reif(5, 1), [][]int{{6}, {1}}, nil},
		{"what tells is told of", api.Con{Kind: api.LinReif, A: ints(3), B: ints(3), C: ints(1)}, [][]int{{0, 1}, {0, 1}}, [][]int{{0, 1}, {0, 1}}},
		{"what tells is told of, told 1", api.Con{Kind: api.LinReif, A: ints(3), B: ints(3), C: ints(1)}, [][]int{{0, 1}, {1}}, [][]int{{0}, {1}}},
	})
}

// What is wrong: nothing and false, whatever the domains are.
func TestP10_1Wrong(t *testing.T) {
	two := [][]int{from(1, 3), from(1, 3)}
	three := append(slices.Clone(two), ints(0, 1))
	many := func(n int) api.Con { return linear(api.LinLe, 300, same(1, n)...) }
	checkAll(t, []filtered{
		{"as many variables as may be", many(api.MaxTerms), same(from(1, 3), api.MaxTerms), same(from(1, 3), api.MaxTerms)},
		{"more variables than may be", many(api.MaxTerms + 1), same(from(1, 3), api.MaxTerms+1), nil},
		{"no variables", many(0), nil, nil},
		{"no variables, but a domain", many(0), two[:1], nil},
		{"no kind", api.Con{A: ints(0), C: ints(1)}, two[:1], nil},
		{"a place that is the last", api.Con{Kind: api.LinLe, A: ints(0, api.MaxVars-1), C: ints(1, 1), K: 9}, two, two},
		{"a place that is none", api.Con{Kind: api.LinLe, A: ints(0, api.MaxVars), C: ints(1, 1), K: 9}, two, nil},
		{"a place below 0", api.Con{Kind: api.LinLe, A: ints(-1, 0), C: ints(1, 1), K: 9}, two, nil},
		{"the greatest place", api.Con{Kind: api.LinLe, A: ints(math.MaxInt, 0), C: ints(1, 1), K: 9}, two, nil},
		{"the least place", api.Con{Kind: api.LinLe, A: ints(0, math.MinInt), C: ints(1, 1), K: 9}, two, nil},
		{"what tells is the last", api.Con{Kind: api.LinReif, A: ints(0, 1), B: ints(api.MaxVars - 1), C: ints(1, 1), K: 9}, three, [][]int{two[0], two[1], {1}}},
		{"what tells is no place", api.Con{Kind: api.LinReif, A: ints(0, 1), B: ints(api.MaxVars), C: ints(1, 1), K: 9}, three, nil},
		{"what tells is below 0", api.Con{Kind: api.LinReif, A: ints(0, 1), B: ints(-1), C: ints(1, 1), K: 9}, three, nil},
		{"nothing tells", api.Con{Kind: api.LinReif, A: ints(0, 1), C: ints(1, 1), K: 9}, two, nil},
		{"nothing tells, with a domain", api.Con{Kind: api.LinReif, A: ints(0, 1), C: ints(1, 1), K: 9}, three, nil},
		{"two tell", api.Con{Kind: api.LinReif, A: ints(0), B: ints(1, 2), C: ints(1), K: 9}, three, nil},
		{"rows", api.Con{Kind: api.LinLe, A: ints(0, 1), C: ints(1, 1), K: 9, Rows: [][]int{{}}}, two, nil},
	})
	for _, kind := range []int{api.LinEq, api.LinLe, api.LinNe, api.LinReif} {
		c := linear(kind, 4, 1, 1)
		lists := two
		if kind == api.LinReif {
			lists = three
		}
		checkWrong(t, c, lists)
	}
}

// checkWrong: a constraint that may be is changed to one that may not.
func checkWrong(t *testing.T, c api.Con, lists [][]int) {
	t.Helper()
	if _, ok := Filter(c, domains(t, lists)); !ok {
		t.Fatalf("%v of %v has nothing left", c, lists)
	}
	wrong := func(what string, change func(c *api.Con)) {
		t.Helper()
		c := copyOf(c)
		change(&c)
		checkFilter(t, "P10.1: "+what, c, lists, nil)
	}
	wrong("a C more", func(c *api.Con) { c.C = append(c.C, 1) })
	wrong("a C less", func(c *api.Con) { c.C = c.C[:1] })
	wrong("no C", func(c *api.Con) { c.C = nil })
	wrong("an A more", func(c *api.Con) { c.A = append(c.A, 2) })
	wrong("an A less", func(c *api.Con) { c.A = c.A[:1] })
	wrong("an A and a C less", func(c *api.Con) { c.A, c.C = c.A[:1], c.C[:1] })
	wrong("an A and a C more", func(c *api.Con) { c.A, c.C = append(c.A, 2), append(c.C, 1) })
	wrong("a B more", func(c *api.Con) { c.B = append(c.B, 2) })
	wrong("a D", func(c *api.Con) { c.D = ints(1, 1) })
	wrong("an E", func(c *api.Con) { c.E = ints(1) })
	for _, k := range []int{api.MaxK + 1, -api.MaxK - 1, math.MaxInt, math.MinInt} {
		wrong("a K beyond its bounds", func(c *api.Con) { c.K = k })
	}
	for _, v := range []int{api.MaxCoef + 1, -api.MaxCoef - 1, math.MaxInt, math.MinInt} {
		wrong("a C beyond its bounds", func(c *api.Con) { c.C[1] = v })
	}
	for i := range lists {
		empty := slices.Clone(lists)
		empty[i] = nil
		checkFilter(t, "P10.1: an empty domain", c, empty, nil)
		checkFilter(t, "P10.1: a domain less", c, slices.Delete(slices.Clone(lists), i, i+1), nil)
		checkFilter(t, "P10.1: a domain more", c, slices.Insert(slices.Clone(lists), i, ints(1, 2)), nil)
	}
	checkFilter(t, "P10.1: no domains", c, nil, nil)
}

// others: constraints that may be, of all kinds that aren't linear.
func others() []api.Con {
	return []api.Con{
		{Kind: api.Times, A: ints(0, 1, 2)}, {Kind: api.Div, A: ints(0, 1, 2)}, {Kind: api.Mod, A: ints(0, 1, 2)},
		{Kind: api.Abs, A: ints(0, 1)}, {Kind: api.Min, A: ints(0, 1, 2)}, {Kind: api.Max, A: ints(0, 1, 2)},
		{Kind: api.Element, A: ints(0, 1), C: ints(1, 1)}, {Kind: api.Clause, A: ints(0), B: ints(1)},
		{Kind: api.EqReif, A: ints(0), B: ints(1), K: 1}, {Kind: api.LeReif, A: ints(0), B: ints(1), K: 1},
		{Kind: api.EqImp, A: ints(0), B: ints(1), K: 1}, {Kind: api.LeImp, A: ints(0), B: ints(1), K: 1},
		{Kind: api.AllDiff, A: ints(0, 1)}, {Kind: api.Table, A: ints(0), Rows: [][]int{{1}}},
		{Kind: api.Cumulative, A: ints(0, 1), C: ints(1, 1), D: ints(1, 1), K: 9}, {Kind: api.Circuit, A: ints(0, 1)},
		{Kind: api.Gcc, A: ints(0, 1), C: ints(1, 2), D: ints(0, 0), E: ints(2, 2)},
		{Kind: api.LexLe, A: ints(0), B: ints(1)}, {Kind: api.Inverse, A: ints(0), B: ints(1)},
	}
}

func TestP10_1OtherKinds(t *testing.T) {
	for _, c := range others() {
		if e := model.Right(c, api.MaxVars); e != api.OK {
			t.Fatalf("%v: %v", c, e)
		}
		checkFilter(t, "P10.1: another kind", c, same(ints(0, 1, 2), len(c.A)+len(c.B)), nil)
	}
	if len(others()) != api.Inverse-4 {
		t.Errorf("there are %d other kinds", len(others()))
	}
	for _, kind := range []int{0, -1, api.Inverse + 1, math.MinInt, math.MaxInt} {
		checkFilter(t, "P10.1: no kind", linear(kind, 9, 1, 1), [][]int{{1}, {1}}, nil)
	}
}

// The greatest and least numbers that may be.
func TestP10_1Limits(t *testing.T) {
	top, bottom := from(api.MaxValue-2, api.MaxValue), from(-api.MaxValue, -api.MaxValue+2)
	coefs := same(api.MaxCoef, api.MaxTerms)
	minus := same(-api.MaxCoef, api.MaxTerms)
	tops, bottoms := same(top, api.MaxTerms), same(bottom, api.MaxTerms)
	half := slices.Concat(coefs[:api.MaxTerms/2], minus[:api.MaxTerms/2])
	for _, kind := range []int{api.LinEq, api.LinLe, api.LinNe, api.LinReif} {
		for _, k := range []int{api.MaxK, api.MaxK - 1, 1, 0, -1, 1 - api.MaxK, -api.MaxK} {
			for _, l := range [][][]int{tops, bottoms} {
				for _, tell := range [][]int{{0}, {1}, {0, 1}} {
					for _, coefs := range [][]int{coefs, minus, half} {
						checkPlain(t, linear(kind, k, coefs...), told01(kind, l, tell))
					}
				}
			}
		}
	}
	checkAll(t, []filtered{
		{"the greatest K", linear(api.LinEq, api.MaxK, 9999, 9999), [][]int{top, bottom}, nil},
		{"the greatest K alone", linear(api.LinEq, api.MaxK, 9999, 1), [][]int{top, {950000, 999999, api.MaxValue}}, [][]int{{api.MaxValue}, {999999}}},
		{"the least K alone", linear(api.LinEq, -api.MaxK, 9999, 1), [][]int{bottom, {-999999, -999998}}, [][]int{{-api.MaxValue}, {-999999}}},
		{"far beyond what may be", linear(api.LinNe, -api.MaxK, 1, api.MaxCoef), [][]int{{1, 2}, {api.MaxValue}}, [][]int{{1, 2}, {api.MaxValue}}},
	})
}

// told01: lists, and behind them, of a LinReif, that of what tells.
func told01(kind int, lists [][]int, tell []int) [][]int {
	if kind != api.LinReif {
		return lists
	}
	return append(slices.Clone(lists), tell)
}

// Where a bound moves by one each time, there are as many times as values, of
// domains as wide as may be.
func TestP10_1AgainAndAgain(t *testing.T) {
	wide := from(-30000, api.MaxWidth-30001)
	even := slices.DeleteFunc(slices.Clone(wide), func(v int) bool { return v%2 != 0 })
	odd := slices.DeleteFunc(slices.Clone(wide), func(v int) bool { return v%2 == 0 })
	checkAll(t, []filtered{
		{"no thirds", linear(api.LinEq, 1, 3, -3), [][]int{wide, wide}, nil},
		{"even ones aren't odd", linear(api.LinEq, 0, 1, -1), [][]int{even, odd}, nil},
		{"even ones aren't odd, below 0", linear(api.LinEq, 0, 1, 1), [][]int{even, odd}, nil},
		{"but one", linear(api.LinEq, 0, 1, -1), [][]int{even, append(slices.Clone(odd), 35536)}, nil},
		{"one that both have", linear(api.LinEq, 0, 1, -1), [][]int{even, slices.Sorted(slices.Values(append(slices.Clone(odd), -3000)))}, [][]int{{-3000}, {-3000}}},
		{"beside all by 0", linear(api.LinEq, 1, append(same(0, api.MaxTerms-2), 3, -3)...), same(wide, api.MaxTerms), nil},
	})
}

// An answer is its own, and nothing is kept from call to call.
func TestAnswersAreNew(t *testing.T) {
	for _, c := range []api.Con{linear(api.LinLe, 99, 1, 1), linear(api.LinLe, 5, 1, 1), linear(api.LinEq, 5, 1, 1), linear(api.LinNe, 5, 1, 1), linear(api.LinReif, 5, 1)} {
		d := domains(t, [][]int{from(0, 9), from(0, 9)})
		left, ok := Filter(c, d)
		want := listsOf(left)
		if !ok {
			t.Fatalf("%v has nothing left", c)
		}
		for i := range left {
			left[i] = dom.Dom{}
		}
		if !equalLists(listsOf(d), [][]int{from(0, 9), from(0, 9)}) {
			t.Errorf("rule 4: %v: what is told shares memory with what is handed in", c)
		}
		again, ok := Filter(c, d)
		if !ok || !equalLists(listsOf(again), want) {
			t.Errorf("rule 7: %v: %v, then %v", c, want, listsOf(again))
		}
		d[0], d[1] = dom.Dom{}, dom.Dom{}
		if !equalLists(listsOf(again), want) {
			t.Errorf("rule 4: %v: what is told hangs on what is handed in", c)
		}
	}
}
