package ext

import (
	"fmt"
	"math"
	"reflect"
	"slices"
	"testing"

	"jigsaw/api"
	"jigsaw/dom"
	"jigsaw/model"
)

var kinds = []int{api.Abs, api.Min, api.Max}

func ints(v ...int) []int { return v }

// from low to high, all numbers.
func from(low, high int) []int {
	return steps(low, high, 1)
}

// steps from low to high at most.
func steps(low, high, step int) []int {
	var l []int
	for v := low; v <= high; v += step {
		l = append(l, v)
	}
	return l
}

// domains of lists; the empty one of an empty list.
func domains(t *testing.T, lists [][]int) []dom.Dom {
	t.Helper()
	l := make([]dom.Dom, len(lists))
	for i, list := range lists {
		d, e := dom.Of(list)
		if e != api.OK && e != api.ErrEmpty {
			t.Fatalf("no domain: %.100s", fmt.Sprint(list))
		}
		l[i] = d
	}
	return l
}

// listsOf domains.
func listsOf(d []dom.Dom) [][]int {
	l := make([][]int, len(d))
	for i := range d {
		l[i] = d[i].List()
	}
	return l
}

// equalLists: are they the same, in order?
func equalLists(a, b [][]int) bool {
	return slices.EqualFunc(a, b, func(x, y []int) bool { return slices.Equal(x, y) })
}

// copyOf a constraint, that shares nothing with it.
func copyOf(c api.Con) api.Con {
	c.A, c.B = slices.Clone(c.A), slices.Clone(c.B)
	c.C, c.D, c.E = slices.Clone(c.C), slices.Clone(c.D), slices.Clone(c.E)
	c.Rows = slices.Clone(c.Rows)
	for i := range c.Rows {
		c.Rows[i] = slices.Clone(c.Rows[i])
	}
	return c
}

// made: a constraint of a kind, the variables one after the other.
func made(kind int) api.Con {
	if kind == api.Abs {
		return api.Con{Kind: kind, A: ints(0, 1)}
	}
	return api.Con{Kind: kind, A: ints(0, 1, 2)}
}

// checkFilter holds Filter against what it should tell (nothing and false, if
// want is nil), and what it is handed against what that was.
func checkFilter(t *testing.T, what string, c api.Con, lists, want [][]int) {
	t.Helper()
	// Behind the length there is something that must not be asked, nor changed.
	behind := domains(t, [][]int{{7}, {8, 9}})
	d := append(domains(t, lists), behind...)
	c2, d2 := copyOf(c), listsOf(d)
	left, ok := Filter(c, d[:len(lists)])
	got := listsOf(left)
	if ok != (want != nil) || !equalLists(got, want) {
		t.Errorf("%s: Filter(%.300s, %.300s): %.300s, %v, want %.300s", what, fmt.Sprint(c), fmt.Sprint(lists), fmt.Sprint(got), ok, fmt.Sprint(want))
	}
	if !reflect.DeepEqual(c, c2) || !equalLists(listsOf(d), d2) {
		t.Errorf("rule 4: %s: %.300s, %.300s became %.300s, %.300s", what, fmt.Sprint(c2), fmt.Sprint(d2), fmt.Sprint(c), fmt.Sprint(listsOf(d)))
	}
}

// filtered: what is left of domains, nil if there is nothing.
type filtered struct {
	what  string
	lists [][]int
	want  [][]int
}

func checkAll(t *testing.T, kind int, all []filtered) {
	t.Helper()
	for _, f := range all {
		checkFilter(t, "P12.1: "+f.what, made(kind), f.lists, f.want)
	}
}

func TestP12_1Abs(t *testing.T) {
	checkAll(t, api.Abs, []filtered{
		{"the example", [][]int{from(-3, 2), {0, 2, 3, 5}}, [][]int{{-3, -2, 0, 2}, {0, 2, 3}}},
		{"all", [][]int{from(-3, 2), from(0, 3)}, [][]int{from(-3, 2), from(0, 3)}},
		{"both signs of one", [][]int{{-4, 1, 4}, {4}}, [][]int{{-4, 4}, {4}}},
		{"one sign alone", [][]int{{-4, 3}, {3, 4}}, [][]int{{-4, 3}, {3, 4}}},
		{"the second below 0", [][]int{{1, 2}, {-2, -1}}, nil},
		{"the second below 0, as the first", [][]int{{-2, -1}, {-2, -1}}, nil},
		{"the second about 0", [][]int{from(-2, 1), from(-2, 1)}, [][]int{from(-1, 1), {0, 1}}},
		{"0", [][]int{from(-2, 2), {0}}, [][]int{{0}, {0}}},
		{"0 alone", [][]int{{0}, from(-2, 2)}, [][]int{{0}, {0}}},
		{"no 0", [][]int{{-1, 1}, from(-1, 1)}, [][]int{{-1, 1}, {1}}},
		{"the second above all", [][]int{{-3, 2}, {4, 5}}, nil},
		{"the second between", [][]int{{-5, 2}, {3, 4}}, nil},
		{"the second's bounds stay, what is between goes", [][]int{{-5, 2}, from(2, 5)}, [][]int{{-5, 2}, {2, 5}}},
		{"the first's bounds stay, what is between goes", [][]int{from(-5, 5), {4, 5}}, [][]int{{-5, -4, 4, 5}, {4, 5}}},
		{"one value each", [][]int{{-3}, {3}}, [][]int{{-3}, {3}}},
		{"one value each, above 0", [][]int{{3}, {3}}, [][]int{{3}, {3}}},
		{"one value each, another one", [][]int{{-3}, {2}}, nil},
		{"one value each, with the sign", [][]int{{-3}, {-3}}, nil},
	})
}

// Of Abs there may be any number of pairs.
func TestP12_1AbsOfManyPairs(t *testing.T) {
	wide := from(-30000, 35535)
	checkAll(t, api.Abs, []filtered{
		{"just so many pairs", [][]int{from(-32, 31), from(1, 64)}, [][]int{append(from(-32, -1), from(1, 31)...), from(1, 32)}},
		{"some pairs more than Work", [][]int{{-5000, -4097}, append(from(0, 2046), 4097, 5001)}, [][]int{{-4097}, {4097}}},
		{"many by one", [][]int{from(-4096, 4096), {7}}, [][]int{{-7, 7}, {7}}},
		{"one by many", [][]int{{-7}, from(-4096, 4096)}, [][]int{{-7}, {7}}},
		{"as wide as may be", [][]int{wide, wide}, [][]int{wide, from(0, 35535)}},
		{"as wide as may be, with gaps", [][]int{steps(-30000, 35535, 3), steps(-30000, 35535, 2)}, [][]int{steps(-30000, 35535, 6), steps(0, 35535, 6)}},
		{"no solution", [][]int{steps(-30000, 35535, 2), steps(1, 35535, 2)}, nil},
	})
}

func TestP12_1Min(t *testing.T) {
	checkAll(t, api.Min, []filtered{
		{"the first is cut", [][]int{from(1, 4), from(3, 6), {3, 4, 5}}, [][]int{{3, 4}, from(3, 6), {3, 4}}},
		{"the second is cut", [][]int{from(3, 6), from(1, 4), {3, 4, 5}}, [][]int{from(3, 6), {3, 4}, {3, 4}}},
		{"all", [][]int{{1, 3}, {2, 4}, {1, 2, 3}}, [][]int{{1, 3}, {2, 4}, {1, 2, 3}}},
		{"the third in neither", [][]int{{1, 5}, {2, 6}, from(0, 7)}, [][]int{{1, 5}, {2, 6}, {1, 2, 5}}},
		{"of the first alone", [][]int{{1, 2}, {5, 6}, from(0, 9)}, [][]int{{1, 2}, {5, 6}, {1, 2}}},
		{"of the second alone", [][]int{{5, 6}, {1, 2}, from(0, 9)}, [][]int{{5, 6}, {1, 2}, {1, 2}}},
		{"a value between goes", [][]int{from(1, 3), {7, 8}, {1, 3}}, [][]int{{1, 3}, {7, 8}, {1, 3}}},
		{"a value above what is common goes", [][]int{{2, 7}, {3, 9}, {3}}, [][]int{{7}, {3}, {3}}},
		{"a value that only the other one's makes", [][]int{{2, 3, 9}, {5, 6}, {3, 5}}, [][]int{{3, 9}, {5, 6}, {3, 5}}},
		{"either one's value", [][]int{{4, 5}, {4, 5}, {4}}, [][]int{{4, 5}, {4, 5}, {4}}},
		{"both one's value", [][]int{{4, 5}, {4, 5}, {5}}, [][]int{{5}, {5}, {5}}},
		{"the greatest ones", [][]int{{4, 5}, {4, 6}, {6}}, nil},
		{"below 0", [][]int{from(-4, -1), {-2}, from(-9, 0)}, [][]int{from(-4, -1), {-2}, {-4, -3, -2}}},
		{"about 0", [][]int{{-3, 3}, {-2, 2}, {-3, -2, 2, 3}}, [][]int{{-3, 3}, {-2, 2}, {-3, -2, 2}}},
		{"no solution", [][]int{{1, 4}, {6, 8}, {2, 3, 6}}, nil},
		{"the third below all", [][]int{{1, 4}, {6, 8}, {-1, 0}}, nil},
		{"one value each", [][]int{{1}, {2}, {1}}, [][]int{{1}, {2}, {1}}},
		{"one value each, the second's", [][]int{{2}, {1}, {1}}, [][]int{{2}, {1}, {1}}},
		{"one value for all", [][]int{{2}, {2}, {2}}, [][]int{{2}, {2}, {2}}},
		{"one value each, the greater one", [][]int{{1}, {2}, {2}}, nil},
		{"one value each, another one", [][]int{{1}, {3}, {2}}, nil},
	})
}

func TestP12_1Max(t *testing.T) {
	checkAll(t, api.Max, []filtered{
		{"the second is cut", [][]int{from(1, 4), from(3, 6), {2, 3, 4}}, [][]int{from(1, 4), {3, 4}, {3, 4}}},
		{"the first is cut", [][]int{from(3, 6), from(1, 4), {2, 3, 4}}, [][]int{{3, 4}, from(1, 4), {3, 4}}},
		{"all", [][]int{{1, 3}, {2, 4}, {2, 3, 4}}, [][]int{{1, 3}, {2, 4}, {2, 3, 4}}},
		{"the third in neither", [][]int{{1, 5}, {2, 6}, from(0, 7)}, [][]int{{1, 5}, {2, 6}, {2, 5, 6}}},
		{"of the first alone", [][]int{{5, 6}, {1, 2}, from(0, 9)}, [][]int{{5, 6}, {1, 2}, {5, 6}}},
		{"of the second alone", [][]int{{1, 2}, {5, 6}, from(0, 9)}, [][]int{{1, 2}, {5, 6}, {5, 6}}},
		{"a value between goes", [][]int{from(7, 9), {1, 2}, {7, 9}}, [][]int{{7, 9}, {1, 2}, {7, 9}}},
		{"a value below what is common goes", [][]int{{2, 7}, {1, 6}, {6}}, [][]int{{2}, {6}, {6}}},
		{"a value that only the other one's makes", [][]int{{0, 6, 7}, {3, 4}, {4, 6}}, [][]int{{0, 6}, {3, 4}, {4, 6}}},
		{"either one's value", [][]int{{4, 5}, {4, 5}, {5}}, [][]int{{4, 5}, {4, 5}, {5}}},
		{"both one's value", [][]int{{4, 5}, {4, 5}, {4}}, [][]int{{4}, {4}, {4}}},
		{"the least ones", [][]int{{3, 5}, {4, 5}, {3}}, nil},
		{"below 0", [][]int{from(-4, -1), {-2}, from(-9, 0)}, [][]int{from(-4, -1), {-2}, {-2, -1}}},
		{"about 0", [][]int{{-3, 3}, {-2, 2}, {-3, -2, 2, 3}}, [][]int{{-3, 3}, {-2, 2}, {-2, 2, 3}}},
		{"no solution", [][]int{{1, 4}, {6, 8}, {2, 4, 7}}, nil},
		{"the third above all", [][]int{{1, 4}, {6, 8}, {9, 10}}, nil},
		{"one value each", [][]int{{1}, {2}, {2}}, [][]int{{1}, {2}, {2}}},
		{"one value each, the first's", [][]int{{2}, {1}, {2}}, [][]int{{2}, {1}, {2}}},
		{"one value for all", [][]int{{2}, {2}, {2}}, [][]int{{2}, {2}, {2}}},
		{"one value each, the less one", [][]int{{1}, {2}, {1}}, nil},
		{"one value each, another one", [][]int{{1}, {3}, {2}}, nil},
	})
}

// workLists: domains of so many values, with gaps, so that they are wider
// than they have values, and that less is left where pairs are looked at.
func workLists(kind, n, m int) [][]int {
	low, high := 1, 20
	if n < m {
		low, high = high, low
	}
	lists := [][]int{steps(low, low+5*n, 5)[:n], steps(high, high+2*m, 2)[:m], {9, 11, 12}}
	if kind == api.Max {
		for _, l := range lists {
			negate(l)
		}
	}
	return lists
}

// negate all numbers of a list that rises: it rises again.
func negate(l []int) {
	for i, v := range l {
		l[i] = -v
	}
	slices.Reverse(l)
}

// Just as many pairs as are looked at, and the next number of pairs above.
func TestP12_1Work(t *testing.T) {
	shapes := [][3]int{{64, 64, 0}, {1, 4096, 0}, {4096, 1, 0}, {2048, 2, 0}, {65, 63, 0}, {17, 241, 1}, {1, 4097, 1}, {4097, 1, 1}, {65, 64, 1}, {64, 65, 1}}
	for _, s := range shapes {
		if wide := s[0]*s[1] > api.Work; wide != (s[2] == 1) {
			t.Fatalf("%v: %d pairs", s, s[0]*s[1])
		}
		for _, kind := range []int{api.Min, api.Max} {
			lists := workLists(kind, s[0], s[1])
			pairs, bounds := plainPairs(kind, lists), plainBounds(kind, lists)
			if equalLists(pairs, bounds) {
				t.Fatalf("kind %d, %v: all the same, whether pairs are looked at or not", kind, s)
			}
			if s[2] == 1 {
				checkFilter(t, "P12.1: more pairs than are looked at", made(kind), lists, bounds)
			} else {
				checkFilter(t, "P12.1: pairs that are looked at", made(kind), lists, pairs)
			}
		}
	}
}

// One pair more, and values are left that are in no solution.
func TestP12_1MinOfMorePairs(t *testing.T) {
	// 64 and 65 values, each one of two numbers, the least and greatest: 0 and
	// 128, 10 and 136.
	low, high := steps(0, 128, 2), steps(10, 136, 2)
	few := steps(2, 128, 2)
	checkAll(t, api.Min, []filtered{
		{"looked at", [][]int{few, high, {11, 14, 15}}, [][]int{steps(14, 128, 2), steps(14, 136, 2), {14}}},
		{"not looked at", [][]int{low, high, {11, 14, 15}}, [][]int{steps(12, 128, 2), steps(12, 136, 2), {11, 14, 15}}},
		{"looked at, no solution", [][]int{few, high, {15}}, nil},
		{"not looked at, no solution", [][]int{low, high, {15}}, [][]int{steps(16, 128, 2), steps(16, 136, 2), {15}}},
		{"the other way round", [][]int{high, low, {11, 14, 15}}, [][]int{steps(12, 136, 2), steps(12, 128, 2), {11, 14, 15}}},
		{"the third's bounds", [][]int{low, high, {-1, 0, 128, 129}}, [][]int{low, high, {0, 128}}},
		{"the third's bounds, the other way round", [][]int{high, low, {-1, 0, 128, 129}}, [][]int{high, low, {0, 128}}},
		{"the third's least one is told once it is cut", [][]int{low, high, {-5, 64, 200}}, [][]int{steps(64, 128, 2), steps(64, 136, 2), {64}}},
		{"the third's least one isn't the bound", [][]int{low, high, {64, 77}}, [][]int{steps(64, 128, 2), steps(64, 136, 2), {64, 77}}},
		{"one is cut", [][]int{low, high, {3, 9}}, [][]int{steps(4, 128, 2), high, {3, 9}}},
		{"one is cut, the other way round", [][]int{high, low, {3, 9}}, [][]int{high, steps(4, 128, 2), {3, 9}}},
		{"nothing above is cut", [][]int{low, high, {0}}, [][]int{low, high, {0}}},
		{"up to one value", [][]int{low, high, {128}}, [][]int{{128}, steps(128, 136, 2), {128}}},
		{"the third above all", [][]int{low, high, {129, 130}}, nil},
		{"the third below all", [][]int{low, high, {-2, -1}}, nil},
		{"the third beside all", [][]int{low, high, {-1, 129}}, nil},
		{"one below the other", [][]int{from(1, 65), from(100, 170), {0, 50, 66, 100}}, [][]int{from(50, 65), from(100, 170), {50}}},
		{"one above the other", [][]int{from(100, 170), from(1, 65), {0, 50, 66, 100}}, [][]int{from(100, 170), from(50, 65), {50}}},
		{"one within the other", [][]int{from(0, 99), from(20, 70), {-1, 10, 30, 70, 71}}, [][]int{from(10, 99), from(20, 70), {10, 30, 70}}},
		{"about the other", [][]int{from(20, 70), from(0, 99), {-1, 10, 30, 70, 71}}, [][]int{from(20, 70), from(10, 99), {10, 30, 70}}},
		{"below 0", [][]int{from(-99, -1), from(-90, -20), {-100, -95, -20, -19}}, [][]int{from(-95, -1), from(-90, -20), {-95, -20}}},
		{"many and one", [][]int{from(0, 4096), {5}, {-1, 2, 6}}, [][]int{from(2, 4096), {5}, {2}}},
		{"many and one, looked at", [][]int{from(0, 4095), {5}, {-1, 2, 6}}, [][]int{{2}, {5}, {2}}},
		{"one and many", [][]int{{5}, from(0, 4096), {-1, 2, 6}}, [][]int{{5}, from(2, 4096), {2}}},
	})
}

func TestP12_1MaxOfMorePairs(t *testing.T) {
	// 65 and 64 values: from 8 to 136 and from 0 to 126.
	high, low := steps(8, 136, 2), steps(0, 126, 2)
	few := steps(8, 134, 2)
	checkAll(t, api.Max, []filtered{
		{"looked at", [][]int{few, low, {121, 122, 125}}, [][]int{steps(8, 122, 2), steps(0, 122, 2), {122}}},
		{"not looked at", [][]int{high, low, {121, 122, 125}}, [][]int{steps(8, 124, 2), steps(0, 124, 2), {121, 122, 125}}},
		{"looked at, no solution", [][]int{few, low, {121}}, nil},
		{"not looked at, no solution", [][]int{high, low, {121}}, [][]int{steps(8, 120, 2), steps(0, 120, 2), {121}}},
		{"the other way round", [][]int{low, high, {121, 122, 125}}, [][]int{steps(0, 124, 2), steps(8, 124, 2), {121, 122, 125}}},
		{"the third's bounds", [][]int{high, low, {7, 8, 136, 137}}, [][]int{high, low, {8, 136}}},
		{"the third's bounds, the other way round", [][]int{low, high, {7, 8, 136, 137}}, [][]int{low, high, {8, 136}}},
		{"the third's greatest one is told once it is cut", [][]int{high, low, {-5, 64, 200}}, [][]int{steps(8, 64, 2), steps(0, 64, 2), {64}}},
		{"the third's greatest one isn't the bound", [][]int{high, low, {51, 64}}, [][]int{steps(8, 64, 2), steps(0, 64, 2), {51, 64}}},
		{"one is cut", [][]int{high, low, {127, 133}}, [][]int{steps(8, 132, 2), low, {127, 133}}},
		{"one is cut, the other way round", [][]int{low, high, {127, 133}}, [][]int{low, steps(8, 132, 2), {127, 133}}},
		{"nothing below is cut", [][]int{high, low, {136}}, [][]int{high, low, {136}}},
		{"down to one value", [][]int{high, low, {8}}, [][]int{{8}, steps(0, 8, 2), {8}}},
		{"the third below all", [][]int{high, low, {6, 7}}, nil},
		{"the third above all", [][]int{high, low, {137, 138}}, nil},
		{"the third beside all", [][]int{high, low, {7, 137}}, nil},
		{"one above the other", [][]int{from(100, 164), from(1, 70), {70, 99, 120, 165}}, [][]int{from(100, 120), from(1, 70), {120}}},
		{"one below the other", [][]int{from(1, 70), from(100, 164), {70, 99, 120, 165}}, [][]int{from(1, 70), from(100, 120), {120}}},
		{"one within the other", [][]int{from(0, 99), from(20, 70), {19, 20, 60, 80, 100}}, [][]int{from(0, 80), from(20, 70), {20, 60, 80}}},
		{"about the other", [][]int{from(20, 70), from(0, 99), {19, 20, 60, 80, 100}}, [][]int{from(20, 70), from(0, 80), {20, 60, 80}}},
		{"below 0", [][]int{from(-99, -1), from(-80, -10), {-81, -80, -5, 0}}, [][]int{from(-99, -5), from(-80, -10), {-80, -5}}},
		{"many and one", [][]int{from(0, 4096), {4000}, {3999, 4050, 4097}}, [][]int{from(0, 4050), {4000}, {4050}}},
		{"many and one, looked at", [][]int{from(1, 4096), {4000}, {3999, 4050, 4097}}, [][]int{{4050}, {4000}, {4050}}},
		{"one and many", [][]int{{4000}, from(0, 4096), {3999, 4050, 4097}}, [][]int{{4000}, from(0, 4050), {4050}}},
	})
}

// The widest domains, and the greatest and least numbers that may be.
func TestP12_1Limits(t *testing.T) {
	top, bottom := from(api.MaxValue-api.MaxWidth+1, api.MaxValue), from(-api.MaxValue, -api.MaxValue+api.MaxWidth-1)
	about := from(-30000, api.MaxWidth-30001)
	all := [][]int{top, bottom, about, {api.MaxValue}, {-api.MaxValue}, {0}}
	for _, first := range all {
		for _, second := range all {
			lists := [][]int{first, second}
			checkFilter(t, "P12.1: at the limits", made(api.Abs), lists, plainFilter(api.Abs, lists))
			for _, third := range all {
				lists := [][]int{first, second, third}
				for _, kind := range []int{api.Min, api.Max} {
					checkFilter(t, "P12.1: at the limits", made(kind), lists, plainFilter(kind, lists))
				}
			}
		}
	}
	checkFilter(t, "P12.1: the widest", made(api.Abs), [][]int{bottom, top}, [][]int{bottom, top})
	checkFilter(t, "P12.1: the widest", made(api.Min), [][]int{top, bottom, about}, nil)
	checkFilter(t, "P12.1: the widest", made(api.Min), [][]int{top, bottom, bottom}, [][]int{top, bottom, bottom})
	checkFilter(t, "P12.1: the widest", made(api.Max), [][]int{top, bottom, top}, [][]int{top, bottom, top})
}

// What is wrong: nothing and false, whatever the domains are.
func TestP12_1Wrong(t *testing.T) {
	for _, kind := range kinds {
		few := [][]int{{2, 4}, {1, 2}, from(0, 9)}
		many := [][]int{from(1, 65), from(1, 65), from(0, 9)}
		last := api.Con{Kind: kind, A: ints(api.MaxVars-1, 7, 7)}
		if kind == api.Abs {
			last.A = ints(api.MaxVars-1, api.MaxVars-1)
		}
		for _, lists := range [][][]int{few, many} {
			lists = lists[:len(last.A)]
			checkWrong(t, made(kind), lists)
			checkFilter(t, "P12.1: the last place, and one twice", last, lists, plainFilter(kind, lists))
		}
	}
}

// checkWrong: a constraint that may be is changed to one that may not.
func checkWrong(t *testing.T, c api.Con, lists [][]int) {
	t.Helper()
	if _, ok := Filter(c, domains(t, lists)); !ok {
		t.Fatalf("%v of %.300s has nothing left", c, fmt.Sprint(lists))
	}
	wrong := func(what string, change func(c *api.Con)) {
		t.Helper()
		c := copyOf(c)
		change(&c)
		checkFilter(t, "P12.1: "+what, c, lists, nil)
		// The wrong constraint may have another number of variables: with
		// just so many domains it is as wrong.
		n := len(c.A) + len(c.B)
		checkFilter(t, "P12.1: "+what, c, slices.Repeat(lists[:1], n), nil)
	}
	last := len(c.A) - 1
	wrong("an A less", func(c *api.Con) { c.A = c.A[:last] })
	wrong("an A more", func(c *api.Con) { c.A = append(c.A, 3) })
	wrong("no A", func(c *api.Con) { c.A = nil })
	wrong("a B", func(c *api.Con) { c.B = ints(3) })
	wrong("a B for an A", func(c *api.Con) { c.A, c.B = c.A[:last], ints(2) })
	wrong("a C", func(c *api.Con) { c.C = ints(1) })
	wrong("a D", func(c *api.Con) { c.D = ints(1) })
	wrong("an E", func(c *api.Con) { c.E = ints(1) })
	wrong("a K", func(c *api.Con) { c.K = 1 })
	wrong("a row", func(c *api.Con) { c.Rows = [][]int{{}} })
	for _, place := range []int{-1, api.MaxVars, math.MaxInt, math.MinInt} {
		for i := range c.A {
			wrong("a place that is none", func(c *api.Con) { c.A[i] = place })
		}
	}
	for i := range lists {
		empty := slices.Clone(lists)
		empty[i] = nil
		checkFilter(t, "P12.1: an empty domain", c, empty, nil)
		checkFilter(t, "P12.1: a domain less", c, slices.Delete(slices.Clone(lists), i, i+1), nil)
		checkFilter(t, "P12.1: a domain more", c, slices.Insert(slices.Clone(lists), i, ints(1, 2)), nil)
	}
	checkFilter(t, "P12.1: no domains", c, nil, nil)
}

// others: constraints that may be, of all kinds of other layers.
func others() []api.Con {
	return []api.Con{
		{Kind: api.LinEq, A: ints(0, 1, 2), C: ints(1, 1, -1)}, {Kind: api.LinLe, A: ints(0, 1, 2), C: ints(1, 1, 1), K: 9},
		{Kind: api.LinNe, A: ints(0, 1, 2), C: ints(1, 1, 1)}, {Kind: api.LinReif, A: ints(0), B: ints(1), C: ints(1)},
		{Kind: api.Times, A: ints(0, 1, 2)}, {Kind: api.Div, A: ints(0, 1, 2)}, {Kind: api.Mod, A: ints(0, 1, 2)},
		{Kind: api.Element, A: ints(0, 1), C: ints(1, 1)}, {Kind: api.Clause, A: ints(0), B: ints(1)},
		{Kind: api.EqReif, A: ints(0), B: ints(1), K: 1}, {Kind: api.LeReif, A: ints(0), B: ints(1), K: 1},
		{Kind: api.EqImp, A: ints(0), B: ints(1), K: 1}, {Kind: api.LeImp, A: ints(0), B: ints(1), K: 1},
		{Kind: api.AllDiff, A: ints(0, 1, 2)}, {Kind: api.Table, A: ints(0), Rows: [][]int{{1}}},
		{Kind: api.Cumulative, A: ints(0, 1), C: ints(1, 1), D: ints(1, 1), K: 9}, {Kind: api.Circuit, A: ints(0, 1, 2)},
		{Kind: api.Gcc, A: ints(0, 1), C: ints(1, 2), D: ints(0, 0), E: ints(2, 2)},
		{Kind: api.LexLe, A: ints(0), B: ints(1)}, {Kind: api.Inverse, A: ints(0), B: ints(1)},
	}
}

func TestP12_1OtherKinds(t *testing.T) {
	for _, c := range others() {
		if e := model.Right(c, api.MaxVars); e != api.OK {
			t.Fatalf("%v: %v", c, e)
		}
		n := len(c.A) + len(c.B)
		checkFilter(t, "P12.1: another kind", c, slices.Repeat([][]int{{0, 1, 2}}, n), nil)
		checkFilter(t, "P12.1: another kind", c, slices.Repeat([][]int{from(0, 99)}, n), nil)
	}
	if len(others()) != api.Inverse-len(kinds) {
		t.Errorf("there are %d other kinds", len(others()))
	}
	for _, kind := range []int{0, -1, api.Inverse + 1, math.MinInt, math.MaxInt} {
		checkFilter(t, "P12.1: no kind", api.Con{Kind: kind, A: ints(0, 1)}, [][]int{{1}, {1}}, nil)
		checkFilter(t, "P12.1: no kind", api.Con{Kind: kind, A: ints(0, 1, 2)}, [][]int{{1}, {1}, {1}}, nil)
	}
}

// An answer is its own, and nothing is kept from call to call.
func TestAnswersAreNew(t *testing.T) {
	few, many := [][]int{from(0, 9), from(0, 9), from(0, 9)}, [][]int{from(0, 99), from(0, 99), from(0, 99)}
	for _, kind := range kinds {
		for _, lists := range [][][]int{few, many} {
			lists = lists[:len(made(kind).A)]
			d := domains(t, lists)
			left, ok := Filter(made(kind), d)
			want := listsOf(left)
			if !ok {
				t.Fatalf("kind %d has nothing left", kind)
			}
			clear(left)
			if !equalLists(listsOf(d), lists) {
				t.Errorf("rule 4: kind %d: what is told shares memory with what is handed in", kind)
			}
			again, ok := Filter(made(kind), d)
			if !ok || !equalLists(listsOf(again), want) {
				t.Errorf("rule 7: kind %d: %v, then %v", kind, want, listsOf(again))
			}
			clear(d)
			if !equalLists(listsOf(again), want) {
				t.Errorf("rule 4: kind %d: what is told hangs on what is handed in", kind)
			}
		}
	}
}
