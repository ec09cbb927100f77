package mul

import (
	"fmt"
	"math"
	"reflect"
	"slices"
	"testing"

	"jigsaw/api"
	"jigsaw/dom"
	"jigsaw/model"
)

func ints(v ...int) []int { return v }

// from low to high, all numbers.
func from(low, high int) []int {
	return steps(low, high, 1)
}

// steps from low to high at most.
func steps(low, high, step int) []int {
	var l []int
	for v := low; v <= high; v += step {
		l = append(l, v)
	}
	return l
}

// without a number of a list.
func without(l []int, v int) []int {
	return slices.DeleteFunc(slices.Clone(l), func(x int) bool { return x == v })
}

// domains of lists; the empty one of an empty list.
func domains(t *testing.T, lists [][]int) []dom.Dom {
	t.Helper()
	l := make([]dom.Dom, len(lists))
	for i, list := range lists {
		d, e := dom.Of(list)
		if e != api.OK && e != api.ErrEmpty {
			t.Fatalf("no domain: %.100s", fmt.Sprint(list))
		}
		l[i] = d
	}
	return l
}

// listsOf domains.
func listsOf(d []dom.Dom) [][]int {
	l := make([][]int, len(d))
	for i := range d {
		l[i] = d[i].List()
	}
	return l
}

// equalLists: are they the same, in order?
func equalLists(a, b [][]int) bool {
	return slices.EqualFunc(a, b, func(x, y []int) bool { return slices.Equal(x, y) })
}

// copyOf a constraint, that shares nothing with it.
func copyOf(c api.Con) api.Con {
	c.A, c.B = slices.Clone(c.A), slices.Clone(c.B)
	c.C, c.D, c.E = slices.Clone(c.C), slices.Clone(c.D), slices.Clone(c.E)
	c.Rows = slices.Clone(c.Rows)
	for i := range c.Rows {
		c.Rows[i] = slices.Clone(c.Rows[i])
	}
	return c
}

// made: a constraint of a kind, the variables one after the other.
func made(kind int) api.Con {
	return api.Con{Kind: kind, A: ints(0, 1, 2)}
}

// checkFilter holds Filter against what it should tell (nothing and false, if
// want is nil), and what it is handed against what that was.
func checkFilter(t *testing.T, what string, c api.Con, lists, want [][]int) {
	t.Helper()
	// Behind the length there is something that must not be asked, nor changed.
	behind := domains(t, [][]int{{7}, {8, 9}})
	d := append(domains(t, lists), behind...)
	c2, d2 := copyOf(c), listsOf(d)
	left, ok := Filter(c, d[:len(lists)])
	got := listsOf(left)
	if ok != (want != nil) || !equalLists(got, want) {
		t.Errorf("%s: Filter(%.300s, %.300s): %.300s, %v, want %.300s", what, fmt.Sprint(c), fmt.Sprint(lists), fmt.Sprint(got), ok, fmt.Sprint(want))
	}
	if !reflect.DeepEqual(c, c2) || !equalLists(listsOf(d), d2) {
		t.Errorf("rule 4: %s: %.300s, %.300s became %.300s, %.300s", what, fmt.Sprint(c2), fmt.Sprint(d2), fmt.Sprint(c), fmt.Sprint(listsOf(d)))
	}
}

// filtered: what is left of domains, nil if there is nothing.
type filtered struct {
	what  string
	lists [][]int
	want  [][]int
}

func checkAll(t *testing.T, kind int, all []filtered) {
	t.Helper()
	for _, f := range all {
		checkFilter(t, "P11.1: "+f.what, made(kind), f.lists, f.want)
	}
}

func TestP11_1Times(t *testing.T) {
	checkAll(t, api.Times, []filtered{
		{"the example", [][]int{{2, 3}, {4, 5}, from(0, 10)}, [][]int{{2}, {4, 5}, {8, 10}}},
		{"all", [][]int{{2, 3}, {4, 5}, {8, 10, 12, 15}}, [][]int{{2, 3}, {4, 5}, {8, 10, 12, 15}}},
		{"the third between", [][]int{{2, 3}, {4, 5}, from(9, 14)}, [][]int{{2, 3}, {4, 5}, {10, 12}}},
		{"no product", [][]int{{2, 3}, {4, 5}, {9, 11, 13, 14}}, nil},
		{"the third above all", [][]int{{2, 3}, {4, 5}, {16, 17}}, nil},
		{"the third below all", [][]int{{2, 3}, {4, 5}, {6, 7}}, nil},
		{"a value of the second alone is left out", [][]int{{1, 2}, {3, 4, 5}, {4, 8}}, [][]int{{1, 2}, {4}, {4, 8}}},
		{"each of two pairs", [][]int{{2, 3, 4}, {2, 3, 4}, {6}}, [][]int{{2, 3}, {2, 3}, {6}}},
		{"no more than solutions of one by one", [][]int{{1, 4}, {1, 4}, {4}}, [][]int{{1, 4}, {1, 4}, {4}}},
		{"below 0", [][]int{from(-2, 2), {0, 3}, from(-7, -1)}, [][]int{{-2, -1}, {3}, {-6, -3}}},
		{"both below 0", [][]int{{-3, -2}, {-5, -4}, from(0, 12)}, [][]int{{-3, -2}, {-5, -4}, {8, 10, 12}}},
		{"0", [][]int{from(-2, 2), from(-2, 2), {0}}, [][]int{from(-2, 2), from(-2, 2), {0}}},
		{"0, by one that isn't", [][]int{from(-2, 2), {1, 2}, {0}}, [][]int{{0}, {1, 2}, {0}}},
		{"no 0", [][]int{from(-2, 2), from(-1, 1), {-2, -1, 1, 2}}, [][]int{{-2, -1, 1, 2}, {-1, 1}, {-2, -1, 1, 2}}},
		{"0, that neither is", [][]int{{1, 2}, {-1, 1}, {0}}, nil},
		{"one value each", [][]int{{3}, {-3}, {-9}}, [][]int{{3}, {-3}, {-9}}},
		{"one value each, another product", [][]int{{3}, {3}, {8}}, nil},
		{"one value each, without the sign", [][]int{{3}, {-3}, {9}}, nil},
		{"far apart", [][]int{{-30000, 30000}, {-30, 2, 30}, {-60000, 0}}, [][]int{{-30000}, {2}, {-60000}}},
	})
}

func TestP11_1Div(t *testing.T) {
	checkAll(t, api.Div, []filtered{
		{"cut towards 0", [][]int{{-7, 7}, {-2, 2}, from(-9, 9)}, [][]int{{-7, 7}, {-2, 2}, {-3, 3}}},
		{"cut towards 0, not down", [][]int{{-7, 7}, {-2, 2}, {-4, 4}}, nil},
		{"0 of the second", [][]int{{-7, 7}, from(-1, 2), {-3, 7}}, [][]int{{-7, 7}, {-1, 1, 2}, {-3, 7}}},
		{"0 alone", [][]int{{1}, {0}, from(-9, 9)}, nil},
		{"0 by 0", [][]int{{0}, {0}, {0}}, nil},
		{"0 by what isn't", [][]int{{0}, from(-1, 1), from(-1, 1)}, [][]int{{0}, {-1, 1}, {0}}},
		{"cut to 0", [][]int{from(-4, 4), {-3, 3}, {0}}, [][]int{from(-2, 2), {-3, 3}, {0}}},
		{"all of one quotient", [][]int{from(0, 20), {3}, {4}}, [][]int{{12, 13, 14}, {3}, {4}}},
		{"all of one quotient below 0", [][]int{from(-20, 0), {3}, {-4}}, [][]int{{-14, -13, -12}, {3}, {-4}}},
		{"a value of the second alone is left out", [][]int{{8, 9}, {2, 3, 5}, {1, 4}}, [][]int{{8, 9}, {2, 5}, {1, 4}}},
		{"by 1 and -1", [][]int{{3, 5}, {-1, 1}, {-5, 3}}, [][]int{{3, 5}, {-1, 1}, {-5, 3}}},
		{"no quotient", [][]int{{8, 9}, {2, 3}, {1, 5}}, nil},
		{"one value each", [][]int{{-7}, {2}, {-3}}, [][]int{{-7}, {2}, {-3}}},
		{"one value each, rounded down", [][]int{{-7}, {2}, {-4}}, nil},
	})
}

func TestP11_1Mod(t *testing.T) {
	checkAll(t, api.Mod, []filtered{
		{"the first one's sign", [][]int{{-7, 7}, {-4, 4}, from(-9, 9)}, [][]int{{-7, 7}, {-4, 4}, {-3, 3}}},
		{"not the second one's sign", [][]int{{-7}, {4}, {1, 3}}, nil},
		{"0 of the second", [][]int{from(-3, 3), {0, 2}, {-1, 0}}, [][]int{{-3, -2, -1, 0, 2}, {2}, {-1, 0}}},
		{"0 alone", [][]int{{1}, {0}, from(-9, 9)}, nil},
		{"0 by 0", [][]int{{0}, {0}, {0}}, nil},
		{"0 by what isn't", [][]int{{0}, from(-1, 1), from(-1, 1)}, [][]int{{0}, {-1, 1}, {0}}},
		{"nothing is left over", [][]int{from(1, 9), {3, 4}, {0}}, [][]int{{3, 4, 6, 8, 9}, {3, 4}, {0}}},
		{"nearer to 0 than the second", [][]int{from(0, 9), from(1, 9), {4}}, [][]int{{4, 9}, from(5, 9), {4}}},
		{"by 1 and -1", [][]int{{3, 5}, {-1, 1}, {-1, 1}}, nil},
		{"less than the second is", [][]int{{-2, 2}, {-3, 3}, from(-9, 9)}, [][]int{{-2, 2}, {-3, 3}, {-2, 2}}},
		{"one value each", [][]int{{-7}, {2}, {-1}}, [][]int{{-7}, {2}, {-1}}},
		{"one value each, another remainder", [][]int{{5}, {3}, {1}}, nil},
	})
}

// Just as many pairs as are looked at, and the next number of pairs above.
func TestP11_1Work(t *testing.T) {
	shapes := [][3]int{{64, 64, 0}, {1, 4096, 0}, {4096, 1, 0}, {2048, 2, 0}, {65, 63, 0}, {17, 241, 1}, {1, 4097, 1}, {4097, 1, 1}, {65, 64, 1}, {64, 65, 1}}
	third := steps(2, 130, 3)
	for _, s := range shapes {
		if wide := s[0]*s[1] > api.Work; wide != (s[2] == 1) {
			t.Fatalf("%v: %d pairs", s, s[0]*s[1])
		}
		for _, kind := range []int{api.Times, api.Div, api.Mod} {
			// With gaps, so that the domains are wider than they have values.
			lists := [][]int{steps(1, 5*s[0], 5)[:s[0]], steps(0, 2*s[1], 2)[:s[1]], third}
			if s[2] == 1 {
				checkFilter(t, "P11.1: more pairs than are looked at", made(kind), lists, plainBounds(kind, lists))
			} else {
				checkFilter(t, "P11.1: pairs that are looked at", made(kind), lists, plainPairs(kind, lists))
			}
		}
	}
}

// One pair more, and values are left that are in no solution.
func TestP11_1TimesOfMorePairs(t *testing.T) {
	a, b, more := from(1, 64), from(0, 63), from(1, 65)
	minusA, minusMore := from(-64, -1), from(-65, -1)
	checkAll(t, api.Times, []filtered{
		{"looked at", [][]int{a, b, {4019, 4032}}, [][]int{{64}, {63}, {4032}}},
		{"not looked at", [][]int{more, b, {4019, 4032}}, [][]int{more, b, {4019, 4032}}},
		{"looked at, no product", [][]int{a, b, {4019}}, nil},
		{"not looked at, no product", [][]int{more, b, {4019}}, [][]int{more, b, {4019}}},
		{"not looked at, between bounds", [][]int{more, b, {-1, 0, 4019, 4095, 4096}}, [][]int{more, b, {0, 4019, 4095}}},
		{"not looked at, all below", [][]int{more, b, {-2, -1}}, nil},
		{"not looked at, all above", [][]int{more, b, {4096, 4097}}, nil},
		{"not looked at, all beside", [][]int{more, b, {-1, 4096}}, nil},
		{"not looked at, the least", [][]int{more, a, {0, 1}}, [][]int{more, a, {1}}},
		{"the first below 0", [][]int{minusMore, a, {-4161, -4160, -7, -1, 0}}, [][]int{minusMore, a, {-4160, -7, -1}}},
		{"the second below 0", [][]int{more, minusA, {-4161, -4160, -7, -1, 0}}, [][]int{more, minusA, {-4160, -7, -1}}},
		{"both below 0", [][]int{minusMore, minusA, {0, 1, 7, 4160, 4161}}, [][]int{minusMore, minusA, {1, 7, 4160}}},
		{"the first about 0", [][]int{from(-5, 60), a, {-321, -320, 3840, 3841}}, [][]int{from(-5, 60), a, {-320, 3840}}},
		{"the second about 0", [][]int{more, from(-3, 60), {-196, -195, 3900, 3901}}, [][]int{more, from(-3, 60), {-195, 3900}}},
		{"the first about 0, the second below", [][]int{from(-5, 60), minusA, {-3841, -3840, 320, 321}}, [][]int{from(-5, 60), minusA, {-3840, 320}}},
		{"the first below 0, the second about", [][]int{minusMore, from(-3, 60), {-3901, -3900, 195, 196}}, [][]int{minusMore, from(-3, 60), {-3900, 195}}},
		{"both about 0, the first far below", [][]int{from(-60, 5), from(-20, 50), {-3001, -3000, 1200, 1201}}, [][]int{from(-60, 5), from(-20, 50), {-3000, 1200}}},
		{"both about 0, the second far below", [][]int{from(-20, 50), from(-60, 5), {-3001, -3000, 1200, 1201}}, [][]int{from(-20, 50), from(-60, 5), {-3000, 1200}}},
		{"both about 0, far above", [][]int{from(-5, 60), from(-10, 60), {-601, -600, 3600, 3601}}, [][]int{from(-5, 60), from(-10, 60), {-600, 3600}}},
		{"both about 0, far below", [][]int{from(-60, 5), from(-60, 10), {-601, -600, 3600, 3601}}, [][]int{from(-60, 5), from(-60, 10), {-600, 3600}}},
		{"all of one", [][]int{from(0, 4096), {5}, {0, 3, 20480}}, [][]int{from(0, 4096), {5}, {0, 3, 20480}}},
		{"all of one, looked at", [][]int{from(0, 4095), {5}, {0, 3, 20475}}, [][]int{{0, 4095}, {5}, {0, 20475}}},
		{"all by 0", [][]int{{0}, from(0, 4096), {-1, 0, 1}}, [][]int{{0}, from(0, 4096), {0}}},
	})
}

func TestP11_1DivOfMorePairs(t *testing.T) {
	a, b, more := from(1, 64), from(0, 63), from(1, 65)
	checkAll(t, api.Div, []filtered{
		{"looked at, no quotient", [][]int{a, b, {9999}}, nil},
		{"not looked at, no quotient", [][]int{more, b, {9999}}, [][]int{more, from(1, 63), {9999}}},
		{"not looked at, some quotients", [][]int{more, b, {-1, 5, 9999}}, [][]int{more, from(1, 63), {-1, 5, 9999}}},
		{"0 in the middle", [][]int{more, from(-32, 31), {9999}}, [][]int{more, without(from(-32, 31), 0), {9999}}},
		{"no 0", [][]int{more, from(1, 64), {9999}}, [][]int{more, from(1, 64), {9999}}},
		{"many by one", [][]int{from(0, 4096), {5}, {-1, 9999}}, [][]int{from(0, 4096), {5}, {-1, 9999}}},
		{"many by one, looked at", [][]int{from(0, 4095), {5}, {-1, 819, 9999}}, [][]int{{4095}, {5}, {819}}},
		{"many by 0", [][]int{from(0, 4096), {0}, {0}}, nil},
		{"many by 0 and another", [][]int{from(0, 4096), {0, 7}, {0}}, [][]int{from(0, 4096), {7}, {0}}},
		{"one by many", [][]int{{4}, from(0, 4096), {9}}, [][]int{{4}, from(1, 4096), {9}}},
	})
}

func TestP11_1ModOfMorePairs(t *testing.T) {
	a, b, more := from(1, 64), from(0, 63), from(1, 65)
	checkAll(t, api.Mod, []filtered{
		{"looked at, no remainder", [][]int{a, b, {9999}}, nil},
		{"not looked at, no remainder", [][]int{more, b, {9999}}, [][]int{more, from(1, 63), {9999}}},
		{"not looked at, some remainders", [][]int{more, b, {-1, 5, 9999}}, [][]int{more, from(1, 63), {-1, 5, 9999}}},
		{"0 in the middle", [][]int{more, from(-32, 31), {9999}}, [][]int{more, without(from(-32, 31), 0), {9999}}},
		{"no 0", [][]int{more, from(1, 64), {9999}}, [][]int{more, from(1, 64), {9999}}},
		{"many by one", [][]int{from(0, 4096), {5}, {5, 9999}}, [][]int{from(0, 4096), {5}, {5, 9999}}},
		{"many by one, looked at", [][]int{from(0, 4095), {4095}, {4, 9999}}, [][]int{{4}, {4095}, {4}}},
		{"many by 0", [][]int{from(0, 4096), {0}, {0}}, nil},
		{"many by 0 and another", [][]int{from(0, 4096), {0, 7}, {9}}, [][]int{from(0, 4096), {7}, {9}}},
		{"one by many", [][]int{{4}, from(0, 4096), {9}}, [][]int{{4}, from(1, 4096), {9}}},
	})
}

// The widest domains, and the greatest and least numbers that may be.
func TestP11_1Limits(t *testing.T) {
	top, bottom := from(api.MaxValue-api.MaxWidth+1, api.MaxValue), from(-api.MaxValue, -api.MaxValue+api.MaxWidth-1)
	about := from(-30000, api.MaxWidth-30001)
	for _, kind := range []int{api.Times, api.Div, api.Mod} {
		for _, first := range [][]int{top, bottom, about, {api.MaxValue}, {-api.MaxValue}, {0}} {
			for _, second := range [][]int{top, bottom, about, {api.MaxValue}, {-api.MaxValue}, {-1}, {0}} {
				for _, third := range [][]int{top, bottom, about, {api.MaxValue}, {0}} {
					lists := [][]int{first, second, third}
					checkFilter(t, "P11.1: at the limits", made(kind), lists, plainFilter(kind, lists))
				}
			}
		}
	}
	checkAll(t, api.Times, []filtered{
		{"the greatest product", [][]int{{999, 1000}, {999, 1000}, {998999, api.MaxValue}}, [][]int{{1000}, {1000}, {api.MaxValue}}},
		{"the least product", [][]int{{-1000, -999}, {999, 1000}, {-api.MaxValue, -998999}}, [][]int{{-1000}, {1000}, {-api.MaxValue}}},
		{"beyond what may be", [][]int{{api.MaxValue}, {api.MaxValue}, top}, nil},
		{"some beyond what may be", [][]int{{1, 50000}, {20, 50000}, {api.MaxValue}}, [][]int{{50000}, {20}, {api.MaxValue}}},
	})
}

// What is wrong: nothing and false, whatever the domains are.
func TestP11_1Wrong(t *testing.T) {
	for _, kind := range []int{api.Times, api.Div, api.Mod} {
		few := [][]int{{2, 4}, {1, 2}, from(0, 9)}
		many := [][]int{from(1, 65), from(1, 65), from(0, 9)}
		for _, lists := range [][][]int{few, many} {
			checkWrong(t, made(kind), lists)
		}
		c := api.Con{Kind: kind, A: ints(api.MaxVars-1, 7, 7)}
		checkFilter(t, "P11.1: the last place, and one twice", c, few, plainFilter(kind, few))
		checkFilter(t, "P11.1: the last place, and one twice", c, many, plainFilter(kind, many))
	}
}

// checkWrong: a constraint that may be is changed to one that may not.
func checkWrong(t *testing.T, c api.Con, lists [][]int) {
	t.Helper()
	if _, ok := Filter(c, domains(t, lists)); !ok {
		t.Fatalf("%v of %.300s has nothing left", c, fmt.Sprint(lists))
	}
	wrong := func(what string, change func(c *api.Con)) {
		t.Helper()
		c := copyOf(c)
		change(&c)
		checkFilter(t, "P11.1: "+what, c, lists, nil)
	}
	wrong("an A less", func(c *api.Con) { c.A = c.A[:2] })
	wrong("an A more", func(c *api.Con) { c.A = append(c.A, 3) })
	wrong("no A", func(c *api.Con) { c.A = nil })
	wrong("a B", func(c *api.Con) { c.B = ints(3) })
	wrong("a B for an A", func(c *api.Con) { c.A, c.B = c.A[:2], ints(2) })
	wrong("a C", func(c *api.Con) { c.C = ints(1) })
	wrong("a D", func(c *api.Con) { c.D = ints(1) })
	wrong("an E", func(c *api.Con) { c.E = ints(1) })
	wrong("a K", func(c *api.Con) { c.K = 1 })
	wrong("a row", func(c *api.Con) { c.Rows = [][]int{{}} })
	for _, place := range []int{-1, api.MaxVars, math.MaxInt, math.MinInt} {
		for i := range c.A {
			wrong("a place that is none", func(c *api.Con) { c.A[i] = place })
		}
	}
	for i := range lists {
		empty := slices.Clone(lists)
		empty[i] = nil
		checkFilter(t, "P11.1: an empty domain", c, empty, nil)
		checkFilter(t, "P11.1: a domain less", c, slices.Delete(slices.Clone(lists), i, i+1), nil)
		checkFilter(t, "P11.1: a domain more", c, slices.Insert(slices.Clone(lists), i, ints(1, 2)), nil)
	}
	checkFilter(t, "P11.1: no domains", c, nil, nil)
}

// others: constraints that may be, of all kinds of other layers.
func others() []api.Con {
	return []api.Con{
		{Kind: api.LinEq, A: ints(0, 1, 2), C: ints(1, 1, -1)}, {Kind: api.LinLe, A: ints(0, 1, 2), C: ints(1, 1, 1), K: 9},
		{Kind: api.LinNe, A: ints(0, 1, 2), C: ints(1, 1, 1)}, {Kind: api.LinReif, A: ints(0), B: ints(1), C: ints(1)},
		{Kind: api.Abs, A: ints(0, 1)}, {Kind: api.Min, A: ints(0, 1, 2)}, {Kind: api.Max, A: ints(0, 1, 2)},
		{Kind: api.Element, A: ints(0, 1), C: ints(1, 1)}, {Kind: api.Clause, A: ints(0), B: ints(1)},
		{Kind: api.EqReif, A: ints(0), B: ints(1), K: 1}, {Kind: api.LeReif, A: ints(0), B: ints(1), K: 1},
		{Kind: api.EqImp, A: ints(0), B: ints(1), K: 1}, {Kind: api.LeImp, A: ints(0), B: ints(1), K: 1},
		{Kind: api.AllDiff, A: ints(0, 1, 2)}, {Kind: api.Table, A: ints(0), Rows: [][]int{{1}}},
		{Kind: api.Cumulative, A: ints(0, 1), C: ints(1, 1), D: ints(1, 1), K: 9}, {Kind: api.Circuit, A: ints(0, 1, 2)},
		{Kind: api.Gcc, A: ints(0, 1), C: ints(1, 2), D: ints(0, 0), E: ints(2, 2)},
		{Kind: api.LexLe, A: ints(0), B: ints(1)}, {Kind: api.Inverse, A: ints(0), B: ints(1)},
	}
}

func TestP11_1OtherKinds(t *testing.T) {
	for _, c := range others() {
		if e := model.Right(c, api.MaxVars); e != api.OK {
			t.Fatalf("%v: %v", c, e)
		}
		n := len(c.A) + len(c.B)
		checkFilter(t, "P11.1: another kind", c, slices.Repeat([][]int{{0, 1, 2}}, n), nil)
		checkFilter(t, "P11.1: another kind", c, slices.Repeat([][]int{from(0, 99)}, n), nil)
	}
	if len(others()) != api.Inverse-3 {
		t.Errorf("there are %d other kinds", len(others()))
	}
	for _, kind := range []int{0, -1, api.Inverse + 1, math.MinInt, math.MaxInt} {
		checkFilter(t, "P11.1: no kind", made(kind), [][]int{{1}, {1}, {1}}, nil)
	}
}

// An answer is its own, and nothing is kept from call to call.
func TestAnswersAreNew(t *testing.T) {
	few, many := [][]int{from(0, 9), from(0, 9), from(0, 9)}, [][]int{from(0, 99), from(0, 99), from(0, 99)}
	for _, kind := range []int{api.Times, api.Div, api.Mod} {
		for _, lists := range [][][]int{few, many} {
			d := domains(t, lists)
			left, ok := Filter(made(kind), d)
			want := listsOf(left)
			if !ok {
				t.Fatalf("kind %d has nothing left", kind)
			}
			clear(left)
			if !equalLists(listsOf(d), lists) {
				t.Errorf("rule 4: kind %d: what is told shares memory with what is handed in", kind)
			}
			again, ok := Filter(made(kind), d)
			if !ok || !equalLists(listsOf(again), want) {
				t.Errorf("rule 7: kind %d: %v, then %v", kind, want, listsOf(again))
			}
			clear(d)
			if !equalLists(listsOf(again), want) {
				t.Errorf("rule 4: kind %d: what is told hangs on what is handed in", kind)
			}
		}
	}
}
