package ext

import (
	"slices"
	"testing"

	"jigsaw/api"
	"jigsaw/ground"
)

// plainResult of a kind, of its values but the last.
func plainResult(kind int, a []int) int {
	switch {
	case kind == api.Abs && a[0] < 0:
		return -a[0]
	case kind == api.Abs:
		return a[0]
	case (a[0] < a[1]) == (kind == api.Min):
		return a[0]
	default:
		return a[1]
	}
}

// set of the numbers of a list.
func set(l []int) map[int]bool {
	in := map[int]bool{}
	for _, v := range l {
		in[v] = true
	}
	return in
}

// kept: the numbers of lists that are in sets; nil, if there is none of one.
func kept(lists [][]int, in []map[int]bool) [][]int {
	left := make([][]int, len(lists))
	for i, l := range lists {
		left[i] = keep(l, func(v int) bool { return in[i][v] })
		if len(left[i]) == 0 {
			return nil
		}
	}
	return left
}

// keep those of l of which f is true.
func keep(l []int, f func(v int) bool) []int {
	return slices.DeleteFunc(slices.Clone(l), func(v int) bool { return !f(v) })
}

// plainPairs: what is in a solution, choice by choice of all values but the
// last; nil, if there is none.
func plainPairs(kind int, lists [][]int) [][]int {
	last := len(lists) - 1
	results := set(lists[last])
	in := make([]map[int]bool, len(lists))
	for i := range in {
		in[i] = map[int]bool{}
	}
	each(lists[:last], func(a []int) {
		r := plainResult(kind, a)
		if !results[r] {
			return
		}
		for i, v := range a {
			in[i][v] = true
		}
		in[last][r] = true
	})
	return kept(lists, in)
}

// plainBounds: what is left where there are too many pairs.
func plainBounds(kind int, lists [][]int) [][]int {
	first, second := lists[0], lists[1]
	low := plainResult(kind, ints(first[0], second[0]))
	high := plainResult(kind, ints(first[len(first)-1], second[len(second)-1]))
	third := keep(lists[2], func(v int) bool { return low <= v && v <= high })
	if len(third) == 0 {
		return nil
	}
	within := func(v int) bool { return v >= third[0] }
	if kind == api.Max {
		within = func(v int) bool { return v <= third[len(third)-1] }
	}
	left := [][]int{keep(first, within), keep(second, within), third}
	if len(left[0]) == 0 || len(left[1]) == 0 {
		return nil
	}
	return left
}

// plainFilter: what is left of lists, nil if there is nothing, as the chapter
// says it.
func plainFilter(kind int, lists [][]int) [][]int {
	if kind == api.Abs || len(lists[0])*len(lists[1]) <= 4096 {
		return plainPairs(kind, lists)
	}
	return plainBounds(kind, lists)
}

// drawer: numbers from 0 to below n that are the same in every run.
func drawer(seed uint32) func(n int) int {
	return func(n int) int {
		seed = seed*1664525 + 1013904223
		return int(uint64(seed) * uint64(n) >> 32)
	}
}

// drawnList of n numbers at most, rising, from low on, so wide at most.
func drawnList(draw func(n int) int, n, low, width int) []int {
	l := make([]int, 1+draw(n))
	for i := range l {
		l[i] = low + draw(width)
	}
	slices.Sort(l)
	return slices.Compact(l)
}

// drawnFew: domains with few small values each, the last mostly of some
// results.
func drawnFew(draw func(n int) int, kind int) [][]int {
	lists := make([][]int, len(made(kind).A))
	for i := range lists {
		lists[i] = drawnList(draw, 1+draw(6), -6, 13)
	}
	if draw(3) == 0 {
		return lists
	}
	last := len(lists) - 1
	if draw(4) > 0 {
		lists[last] = nil
	}
	for range 1 + draw(5) {
		lists[last] = append(lists[last], plainResult(kind, drawnOf(draw, lists[:last])))
	}
	slices.Sort(lists[last])
	lists[last] = slices.Compact(lists[last])
	return lists
}

// drawnOf lists: a number of each.
func drawnOf(draw func(n int) int, lists [][]int) []int {
	a := make([]int, len(lists))
	for i, l := range lists {
		a[i] = l[draw(len(l))]
	}
	return a
}

// drawnMany: domains of all widths, with as many pairs as are looked at or
// somewhat more or less, the last about some result.
func drawnMany(draw func(n int) int, kind int) [][]int {
	lists := make([][]int, len(made(kind).A))
	last := len(lists) - 1
	for i := range last {
		width := 50 + draw(60)
		low := draw(3*width) - width - width/2
		lists[i] = keep(from(low, low+width), func(int) bool { return draw(6) > 0 })
	}
	at, width := plainResult(kind, drawnOf(draw, lists[:last])), 1<<draw(8)
	lists[last] = drawnList(draw, 20, at-width/2, width)
	if draw(4) == 0 {
		lists[last] = boundsOf(kind, lists[:last])
	}
	if draw(3) == 0 {
		// Beyond all results of such numbers.
		lists[last] = append(lists[last], 400+draw(100))
	}
	if draw(20) == 0 {
		lists[last] = lists[last][len(lists[last])-1:]
	}
	return lists
}

// boundsOf results: of the least values and of the greatest ones, rising.
func boundsOf(kind int, lists [][]int) []int {
	var least, greatest []int
	for _, l := range lists {
		least, greatest = append(least, l[0]), append(greatest, l[len(l)-1])
	}
	l := ints(plainResult(kind, least), plainResult(kind, greatest))
	slices.Sort(l)
	return slices.Compact(l)
}

// each choice of a value of each list.
func each(lists [][]int, do func(a []int)) {
	a := make([]int, len(lists))
	var next func(i int)
	next = func(i int) {
		if i == len(lists) {
			do(a)
			return
		}
		for _, v := range lists[i] {
			a[i] = v
			next(i + 1)
		}
	}
	next(0)
}

// counts of what came of cases.
type counts struct {
	none, same, less int
}

func (n *counts) add(lists, left [][]int) {
	switch {
	case left == nil:
		n.none++
	case equalLists(lists, left):
		n.same++
	default:
		n.less++
	}
}

// inSolutions: the values of the solutions among lists, as layer 9 tells them;
// nil, if there are none.
func inSolutions(kind int, lists [][]int) [][]int {
	in := make([]map[int]bool, len(lists))
	for i := range in {
		in[i] = map[int]bool{}
	}
	each(lists, func(a []int) {
		if !ground.Holds(made(kind), a) {
			return
		}
		for i, v := range a {
			in[i][v] = true
		}
	})
	return kept(lists, in)
}

// Of few values all solutions are known: the values of the solutions are
// left, and no others.
func TestP12_1AllSolutions(t *testing.T) {
	draw := drawer(12)
	for _, kind := range kinds {
		var n counts
		for range 3000 {
			lists := drawnFew(draw, kind)
			want := inSolutions(kind, lists)
			n.add(lists, want)
			c := made(kind)
			if draw(3) == 0 {
				// The places make no difference, not even if one stands
				// several times.
				for i := range c.A {
					c.A[i] = draw(4)
				}
			}
			checkFilter(t, "P12.1: drawn", c, lists, want)
		}
		if n.none < 100 || n.same < 50 || n.less < 100 {
			t.Errorf("of kind %d there are too few cases of a sort: %+v", kind, n)
		}
	}
}

func TestP12_1DrawnWidths(t *testing.T) {
	draw := drawer(112)
	for _, kind := range kinds {
		var looked, over counts
		for range 2500 {
			lists := drawnMany(draw, kind)
			want := plainFilter(kind, lists)
			if kind != api.Abs && len(lists[0])*len(lists[1]) > api.Work {
				over.add(lists, want)
			} else {
				looked.add(lists, want)
			}
			checkFilter(t, "P12.1: drawn", made(kind), lists, want)
		}
		if looked.none < 20 || looked.less < 100 || kind != api.Abs && (over.none < 20 || over.same < 20 || over.less < 100) {
			t.Errorf("of kind %d there are too few cases of a sort: %+v, %+v", kind, looked, over)
		}
	}
}

func TestP12_2NoSolutionIsLost(t *testing.T) {
	draw := drawer(212)
	for _, kind := range kinds {
		solutions := 0
		for i := range 1500 {
			lists := drawnFew(draw, kind)
			if i%4 == 0 {
				lists = drawnMany(draw, kind)
			}
			last := len(lists) - 1
			left, _ := Filter(made(kind), domains(t, lists))
			each(lists[:last], func(a []int) {
				r := plainResult(kind, a)
				if _, found := slices.BinarySearch(lists[last], r); !found {
					return
				}
				a = append(slices.Clone(a), r)
				solutions++
				if !ground.Holds(made(kind), a) {
					t.Fatalf("kind %d, %v: no solution", kind, a)
				}
				for i, v := range a {
					if len(left) != len(a) || !left[i].Has(v) {
						t.Fatalf("P12.2: kind %d, %.300v: %.300v, the solution %v is lost", kind, lists, listsOf(left), a)
					}
				}
			})
		}
		if solutions < 2000 {
			t.Errorf("of kind %d there are %d solutions", kind, solutions)
		}
	}
}

func TestP12_2OneValueEach(t *testing.T) {
	values := append(from(-9, 9), 1000, -1000, 999, api.MaxValue-1, api.MaxValue, 1-api.MaxValue, -api.MaxValue)
	for _, kind := range kinds {
		met := map[bool]int{}
		lists := slices.Repeat([][]int{values}, len(made(kind).A))
		each(lists, func(a []int) {
			holds := ground.Holds(made(kind), a)
			met[holds]++
			one := make([][]int, len(a))
			for i, v := range a {
				one[i] = ints(v)
			}
			left, ok := Filter(made(kind), domains(t, one))
			if ok != holds || ok && !equalLists(listsOf(left), one) {
				t.Errorf("P12.2: kind %d of %v: %v, %v, want %v", kind, a, listsOf(left), ok, holds)
			}
		})
		if met[true] < 20 || met[false] < 500 {
			t.Errorf("of kind %d hold %d, and %d don't", kind, met[true], met[false])
		}
	}
}
