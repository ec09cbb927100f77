package mul

import (
	"maps"
	"math"
	"slices"
	"testing"

	"jigsaw/api"
	"jigsaw/ground"
)

// plainResult of a kind, by floats, which have room for all products and
// quotients of values; false, if there is none.
func plainResult(kind, a, b int) (int, bool) {
	x, y := float64(a), float64(b)
	switch {
	case kind == api.Times:
		return int(x * y), true
	case b == 0:
		return 0, false
	case kind == api.Div:
		return int(math.Trunc(x / y)), true
	default:
		return int(math.Mod(x, y)), true
	}
}

// plainPairs: what is in a solution, pair by pair; nil, if there is none.
func plainPairs(kind int, lists [][]int) [][]int {
	in := []map[int]bool{{}, {}, {}}
	third := map[int]bool{}
	for _, v := range lists[2] {
		third[v] = true
	}
	for _, a := range lists[0] {
		for _, b := range lists[1] {
			if r, ok := plainResult(kind, a, b); ok && third[r] {
				in[0][a], in[1][b], in[2][r] = true, true, true
			}
		}
	}
	if len(in[0]) == 0 {
		return nil
	}
	left := make([][]int, 3)
	for i := range in {
		left[i] = slices.Sorted(maps.Keys(in[i]))
	}
	return left
}

// plainBounds: what is left where there are too many pairs.
func plainBounds(kind int, lists [][]int) [][]int {
	left := slices.Clone(lists)
	if kind != api.Times {
		left[1] = without(lists[1], 0)
	} else {
		var products []int
		for _, a := range []int{lists[0][0], lists[0][len(lists[0])-1]} {
			for _, b := range []int{lists[1][0], lists[1][len(lists[1])-1]} {
				products = append(products, a*b)
			}
		}
		least, greatest := slices.Min(products), slices.Max(products)
		left[2] = slices.DeleteFunc(slices.Clone(lists[2]), func(v int) bool { return v < least || v > greatest })
	}
	if len(left[1]) == 0 || len(left[2]) == 0 {
		return nil
	}
	return left
}

// plainFilter: what is left of lists, nil if there is nothing, as the chapter
// says it.
func plainFilter(kind int, lists [][]int) [][]int {
	if len(lists[0])*len(lists[1]) <= 4096 {
		return plainPairs(kind, lists)
	}
	return plainBounds(kind, lists)
}

// drawer: numbers from 0 to below n that are the same in every run.
func drawer(seed uint32) func(n int) int {
	return func(n int) int {
		seed = seed*1664525 + 1013904223
		return int(uint64(seed) * uint64(n) >> 32)
	}
}

// drawnList of n numbers at most, rising, from low on, so wide at most.
func drawnList(draw func(n int) int, n, low, width int) []int {
	l := make([]int, 1+draw(n))
	for i := range l {
		l[i] = low + draw(width)
	}
	slices.Sort(l)
	return slices.Compact(l)
}

// drawnFew: domains with few small values each, the third mostly of some
// results.
func drawnFew(draw func(n int) int, kind int) [][]int {
	lists := make([][]int, 3)
	for i := range lists {
		lists[i] = drawnList(draw, 1+draw(6), -6, 13)
	}
	if draw(3) == 0 {
		return lists
	}
	if draw(4) > 0 {
		lists[2] = nil
	}
	for range 1 + draw(9) {
		a, b := lists[0][draw(len(lists[0]))], lists[1][draw(len(lists[1]))]
		r, _ := plainResult(kind, a, b)
		lists[2] = append(lists[2], r)
	}
	slices.Sort(lists[2])
	lists[2] = slices.Compact(lists[2])
	return lists
}

// drawnMany: domains of all widths, with as many pairs as are looked at or
// somewhat more or less, the third about some results.
func drawnMany(draw func(n int) int, kind int) [][]int {
	lists := make([][]int, 3)
	for i := range 2 {
		width := 50 + draw(60)
		low := draw(2*width+1) - width - width/2
		lists[i] = slices.DeleteFunc(from(low, low+width), func(int) bool { return draw(6) == 0 })
	}
	at := 0
	for range 3 {
		r, ok := plainResult(kind, lists[0][draw(len(lists[0]))], lists[1][draw(len(lists[1]))])
		if ok {
			at = r
		}
	}
	width := 1 << draw(11)
	lists[2] = drawnList(draw, 20, at-width/2, width)
	if draw(3) == 0 {
		// Beyond all products of such numbers.
		lists[2] = append(lists[2], 40000+draw(100))
	}
	if draw(20) == 0 {
		lists[2] = lists[2][len(lists[2])-1:]
	}
	return lists
}

// each choice of a value of each list.
func each(lists [][]int, do func(a []int)) {
	a := make([]int, len(lists))
	var next func(i int)
	next = func(i int) {
		if i == len(lists) {
			do(a)
			return
		}
		for _, v := range lists[i] {
			a[i] = v
			next(i + 1)
		}
	}
	next(0)
}

// counts of what came of cases.
type counts struct {
	none, same, less int
}

func (n *counts) add(lists, left [][]int) {
	switch {
	case left == nil:
		n.none++
	case equalLists(lists, left):
		n.same++
	default:
		n.less++
	}
}

var kinds = []int{api.Times, api.Div, api.Mod}

// Of few values all solutions are known, as layer 9 tells them: the values of
// the solutions are left, and no others.
func TestP11_1AllSolutions(t *testing.T) {
	draw := drawer(11)
	for _, kind := range kinds {
		var n counts
		for range 3000 {
			lists := drawnFew(draw, kind)
			var want [][]int
			each(lists, func(a []int) {
				if !ground.Holds(made(kind), a) {
					return
				}
				if want == nil {
					want = make([][]int, 3)
				}
				for i, v := range a {
					want[i] = append(want[i], v)
				}
			})
			for i := range want {
				slices.Sort(want[i])
				want[i] = slices.Compact(want[i])
			}
			n.add(lists, want)
			c := made(kind)
			if draw(3) == 0 {
				// The places make no difference, not even if one stands
				// several times.
				c.A = ints(draw(9), draw(9), draw(9))
			}
			checkFilter(t, "P11.1: drawn", c, lists, want)
		}
		if n.none < 100 || n.same < 50 || n.less < 100 {
			t.Errorf("of kind %d there are too few cases of a sort: %+v", kind, n)
		}
	}
}

func TestP11_1DrawnWidths(t *testing.T) {
	draw := drawer(111)
	for _, kind := range kinds {
		var looked, over counts
		for range 1500 {
			lists := drawnMany(draw, kind)
			want := plainFilter(kind, lists)
			if len(lists[0])*len(lists[1]) <= api.Work {
				looked.add(lists, want)
			} else {
				over.add(lists, want)
			}
			checkFilter(t, "P11.1: drawn", made(kind), lists, want)
		}
		if looked.none < 20 || looked.less < 100 || over.same < 100 || over.less < 100 {
			t.Errorf("of kind %d there are too few cases of a sort: %+v, %+v", kind, looked, over)
		}
	}
}

func TestP11_2NoSolutionIsLost(t *testing.T) {
	draw := drawer(211)
	for _, kind := range kinds {
		solutions := 0
		for i := range 600 {
			lists := drawnFew(draw, kind)
			if i%4 == 0 {
				lists = drawnMany(draw, kind)
			}
			left, _ := Filter(made(kind), domains(t, lists))
			each(lists[:2], func(a []int) {
				r, ok := plainResult(kind, a[0], a[1])
				_, found := slices.BinarySearch(lists[2], r)
				if !ok || !found {
					return
				}
				a = append(slices.Clone(a), r)
				solutions++
				if !ground.Holds(made(kind), a) {
					t.Fatalf("kind %d, %v: no solution", kind, a)
				}
				for i, v := range a {
					if len(left) != 3 || !left[i].Has(v) {
						t.Fatalf("P11.2: kind %d, %.300v: %.300v, the solution %v is lost", kind, lists, listsOf(left), a)
					}
				}
			})
		}
		if solutions < 2000 {
			t.Errorf("of kind %d there are %d solutions", kind, solutions)
		}
	}
}

func TestP11_2OneValueEach(t *testing.T) {
	draw := drawer(311)
	values := append(from(-9, 9), 1000, -1000, 999, api.MaxValue-1, api.MaxValue, 1-api.MaxValue, -api.MaxValue)
	for _, kind := range kinds {
		met := map[bool]int{}
		for _, x := range values {
			for _, y := range values {
				r, _ := plainResult(kind, x, y)
				for _, z := range []int{r, r + 1, r - 1, -r, 0, values[draw(len(values))]} {
					if max(z, -z) > api.MaxValue {
						continue
					}
					a := ints(x, y, z)
					holds := ground.Holds(made(kind), a)
					met[holds]++
					lists := [][]int{{x}, {y}, {z}}
					left, ok := Filter(made(kind), domains(t, lists))
					if ok != holds || ok && !equalLists(listsOf(left), lists) {
						t.Errorf("P11.2: kind %d of %v: %v, %v, want %v", kind, a, listsOf(left), ok, holds)
					}
				}
			}
		}
		if met[true] < 500 || met[false] < 500 {
			t.Errorf("of kind %d hold %d, and %d don't", kind, met[true], met[false])
		}
	}
}
