package elem

import (
	"slices"
	"testing"

	"jigsaw/api"
	"jigsaw/dom"
	"jigsaw/ground"
)

// drawer: numbers from 0 to below n that are the same in every run.
func drawer(seed uint32) func(n int) int {
	return func(n int) int {
		seed = seed*1664525 + 1013904223
		return int(uint64(seed) * uint64(n) >> 32)
	}
}

// drawnList of n numbers at most, rising, from low on, so wide at most.
func drawnList(draw func(n int) int, n, low, width int) []int {
	l := make([]int, 1+draw(n))
	for i := range l {
		l[i] = low + draw(width)
	}
	slices.Sort(l)
	return slices.Compact(l)
}

// drawnRow of n numbers at most, of some width about some number.
func drawnRow(draw func(n int) int, n int) []int {
	row := make([]int, 1+draw(n))
	width := 1 + draw(2*n)
	low := draw(20) - 10 - width/2
	for i := range row {
		row[i] = low + draw(width)
	}
	return row
}

// drawnCase: a row, and domains of its places and its values, mostly with
// some beside them.
func drawnCase(draw func(n int) int, n int) ([]int, [][]int) {
	row := drawnRow(draw, n)
	low, high := slices.Min(row), slices.Max(row)
	places := drawnList(draw, n+4, draw(4)-2, len(row)+3)
	values := drawnList(draw, n+4, low-draw(3), high-low+3)
	if draw(3) == 0 {
		places = from(1, len(row))
	}
	switch draw(5) {
	case 0:
		values = ints(row[draw(len(row))])
	case 1:
		values = slices.Clone(row)
		slices.Sort(values)
		values = slices.Compact(values)
	}
	return row, [][]int{places, values}
}

// each pair of a value of each of two lists.
func each(lists [][]int, do func(a []int)) {
	for _, v := range lists[0] {
		for _, w := range lists[1] {
			do(ints(v, w))
		}
	}
}

// inSolutions: the values of the solutions among lists, as layer 9 tells them;
// nil, if there are none.
func inSolutions(row []int, lists [][]int) [][]int {
	in := []map[int]bool{{}, {}}
	each(lists, func(a []int) {
		if ground.Holds(made(row), a) {
			in[0][a[0]], in[1][a[1]] = true, true
		}
	})
	if len(in[0]) == 0 {
		return nil
	}
	left := make([][]int, len(lists))
	for i, l := range lists {
		left[i] = slices.DeleteFunc(slices.Clone(l), func(v int) bool { return !in[i][v] })
	}
	return left
}

func TestP13_1AllSolutions(t *testing.T) {
	draw := drawer(13)
	none, same, less := 0, 0, 0
	for i := range 6000 {
		n := 6
		if i%20 == 0 {
			n = api.MaxTerms
		}
		row, lists := drawnCase(draw, n)
		want := inSolutions(row, lists)
		switch {
		case want == nil:
			none++
		case equalLists(lists, want):
			same++
		default:
			less++
		}
		c := made(row)
		if draw(3) == 0 {
			// The variables make no difference, not even one that stands twice.
			c.A = ints(draw(3), draw(3))
		}
		checkFilter(t, "P13.1: drawn", c, lists, want)
	}
	if none < 300 || same < 300 || less < 1000 {
		t.Errorf("there are too few cases of a sort: %d, %d, %d", none, same, less)
	}
}

// checkNoneLost: each solution among lists is among what is left of them.
func checkNoneLost(t *testing.T, row []int, lists [][]int, left []dom.Dom) int {
	t.Helper()
	solutions := 0
	each(lists, func(a []int) {
		if a[0] < 1 || a[0] > len(row) || row[a[0]-1] != a[1] {
			return
		}
		solutions++
		if len(left) != 2 || !left[0].Has(a[0]) || !left[1].Has(a[1]) {
			t.Errorf("P13.2: %v of %v: %v, the solution %v is lost", row, lists, listsOf(left), a)
		}
	})
	return solutions
}

func TestP13_2NoneLostAndLeftAgain(t *testing.T) {
	draw := drawer(213)
	solutions, again := 0, 0
	for range 3000 {
		row, lists := drawnCase(draw, 12)
		left, ok := Filter(made(row), domains(t, lists))
		solutions += checkNoneLost(t, row, lists, left)
		if ok {
			again++
			checkFilter(t, "P13.2: again", made(row), listsOf(left), listsOf(left))
		}
	}
	if solutions < 3000 || again < 1000 {
		t.Errorf("there are %d solutions, and %d are filtered again", solutions, again)
	}
}

func TestP13_2OneValueEach(t *testing.T) {
	values := append(from(-4, 9), api.MaxTerms, api.MaxTerms+1, api.MaxValue-1, api.MaxValue, 1-api.MaxValue, -api.MaxValue)
	rows := [][]int{{1}, {0}, {5, 7}, {1, 2, 3}, {2, 2, -3, 2}, {api.MaxCoef, -api.MaxCoef}, slices.Repeat(ints(9, -4), api.MaxTerms/2)}
	met := map[bool]int{}
	for _, row := range rows {
		each([][]int{values, values}, func(a []int) {
			one := [][]int{a[:1], a[1:]}
			want := one
			holds := ground.Holds(made(row), a)
			met[holds]++
			if !holds {
				want = nil
			}
			checkFilter(t, "P13.2: one value each", made(row), one, want)
		})
	}
	if met[true] < 20 || met[false] < 1000 {
		t.Errorf("of %d it holds, of %d it doesn't", met[true], met[false])
	}
}
