package lin

import (
	"slices"
	"testing"

	"jigsaw/api"
	"jigsaw/dom"
	"jigsaw/ground"
)

// drawer: numbers from 0 to below n that are the same in every run.
func drawer(seed uint32) func(n int) int {
	return func(n int) int {
		seed = seed*1664525 + 1013904223
		return int(uint64(seed) * uint64(n) >> 32)
	}
}

// plainSums: the least and the greatest that a value can be in a sum.
func plainSums(coefs []int, lists [][]int) (int, int) {
	least, greatest := 0, 0
	for i, coef := range coefs {
		low, high := coef*lists[i][0], coef*lists[i][0]
		for _, v := range lists[i] {
			low, high = min(low, coef*v), max(high, coef*v)
		}
		least, greatest = least+low, greatest+high
	}
	return least, greatest
}

// plainBound: of each list those values whose term, with the least ones of all
// others, is at most k, value by value.
func plainBound(coefs []int, k int, lists [][]int) [][]int {
	left := make([][]int, len(coefs))
	for i, coef := range coefs {
		others := slices.Delete(slices.Clone(coefs), i, i+1)
		least, _ := plainSums(others, slices.Delete(slices.Clone(lists[:len(coefs)]), i, i+1))
		for _, v := range lists[i] {
			if coef*v+least <= k {
				left[i] = append(left[i], v)
			}
		}
	}
	return append(left, lists[len(coefs):]...)
}

// turned: all numbers with the other sign.
func turned(l []int) []int {
	k := make([]int, len(l))
	for i, v := range l {
		k[i] = -v
	}
	return k
}

// anyEmpty list?
func anyEmpty(lists [][]int) bool {
	return slices.ContainsFunc(lists, func(l []int) bool { return len(l) == 0 })
}

// plainFilter: what is left of lists, nil if there is nothing, as the chapter
// says it.
func plainFilter(c api.Con, lists [][]int) [][]int {
	left := lists
	switch c.Kind {
	case api.LinLe:
		left = plainBound(c.C, c.K, lists)
	case api.LinEq:
		for {
			next := plainBound(c.C, c.K, left)
			if anyEmpty(next) {
				return nil
			}
			next = plainBound(turned(c.C), -c.K, next)
			if anyEmpty(next) {
				return nil
			}
			if equalLists(next, left) {
				break
			}
			left = next
		}
	case api.LinNe:
		left = plainUnlike(c, lists)
	case api.LinReif:
		left = plainTold(c, lists)
	}
	if anyEmpty(left) {
		return nil
	}
	return left
}

// plainUnlike of LinNe.
func plainUnlike(c api.Con, lists [][]int) [][]int {
	left := slices.Clone(lists)
	for i := range lists {
		total, open := 0, false
		for j, l := range lists {
			if j != i {
				total += c.C[j] * l[0]
				open = open || len(l) > 1
			}
		}
		if !open {
			left[i] = slices.DeleteFunc(slices.Clone(lists[i]), func(v int) bool { return total+c.C[i]*v == c.K })
		}
	}
	return left
}

// plainTold of LinReif.
func plainTold(c api.Con, lists [][]int) [][]int {
	n := len(c.A)
	least, greatest := plainSums(c.C, lists)
	var tell []int
	for _, v := range lists[n] {
		if v == 0 && greatest > c.K || v == 1 && least <= c.K {
			tell = append(tell, v)
		}
	}
	left := append(slices.Clone(lists[:n]), tell)
	switch {
	case slices.Equal(tell, []int{1}):
		return plainBound(c.C, c.K, left)
	case slices.Equal(tell, []int{0}):
		return plainBound(turned(c.C), -c.K-1, left)
	}
	return left
}

// checkPlain holds Filter against the plain one, and answers what is left.
func checkPlain(t *testing.T, c api.Con, lists [][]int) [][]int {
	t.Helper()
	want := plainFilter(c, lists)
	checkFilter(t, "P10.1", c, lists, want)
	return want
}

// drawnList of n numbers at most, rising, from low on, so wide at most.
func drawnList(draw func(n int) int, n, low, width int) []int {
	l := make([]int, 1+draw(n))
	for i := range l {
		l[i] = low + draw(width)
	}
	slices.Sort(l)
	return slices.Compact(l)
}

// drawnSum: a number that is the sum of values of the lists, or near it. Of
// each sort of what may come there is enough only if it is.
func drawnSum(draw func(n int) int, coefs []int, lists [][]int) int {
	total := 0
	for i, coef := range coefs {
		total += coef * lists[i][draw(len(lists[i]))]
	}
	if draw(3) == 0 {
		total += draw(5) - 2
	}
	return min(max(total, -api.MaxK), api.MaxK)
}

// shut most lists, so that a LinNe has something to leave out.
func shut(draw func(n int) int, lists [][]int) {
	if draw(3) == 0 {
		return
	}
	open := draw(len(lists))
	for i := range lists {
		if i != open {
			lists[i] = lists[i][:1]
		}
	}
}

// drawnCase: a constraint of a kind, of few variables with few small values
// each.
func drawnCase(draw func(n int) int, kind int) (api.Con, [][]int) {
	n := 1 + draw(4)
	coefs, lists := make([]int, n), make([][]int, n)
	for i := range coefs {
		coefs[i] = draw(9) - 4
		lists[i] = drawnList(draw, 1+draw(5), -4, 9)
	}
	if kind == api.LinNe {
		shut(draw, lists)
	}
	c := linear(kind, drawnSum(draw, coefs, lists), coefs...)
	if kind == api.LinReif {
		lists = append(lists, drawnList(draw, 4, -1, 4))
	}
	if draw(3) > 0 {
		return c, lists
	}
	// The places of the variables make no difference, not even if one stands
	// several times.
	for i := range c.A {
		c.A[i] = draw(api.MaxVars)
	}
	for i := range c.B {
		c.B[i] = draw(api.MaxVars)
	}
	return c, lists
}

// drawnWide: a constraint of a kind with numbers of all sizes.
func drawnWide(draw func(n int) int, kind int) (api.Con, [][]int) {
	n := 1 + draw(6)
	coefs, lists := make([]int, n), make([][]int, n)
	for i := range coefs {
		width := 1 << draw(17)
		lists[i] = drawnList(draw, 12, draw(2*api.MaxValue-width+2)-api.MaxValue, width)
		size := 1 << draw(20)
		coefs[i] = min(max(draw(2*size+1)-size, -api.MaxCoef), api.MaxCoef)
	}
	if kind == api.LinNe {
		shut(draw, lists)
	}
	c := linear(kind, drawnSum(draw, coefs, lists), coefs...)
	if kind == api.LinReif {
		lists = append(lists, drawnList(draw, 3, 0, 2))
	}
	return c, lists
}

// each choice of a value of each list.
func each(lists [][]int, do func(a []int)) {
	a := make([]int, len(lists))
	var from func(i int)
	from = func(i int) {
		if i == len(lists) {
			do(a)
			return
		}
		for _, v := range lists[i] {
			a[i] = v
			from(i + 1)
		}
	}
	from(0)
}

// counts of what came of cases.
type counts struct {
	none, same, less int
}

func (n *counts) add(lists, left [][]int) {
	switch {
	case left == nil:
		n.none++
	case equalLists(lists, left):
		n.same++
	default:
		n.less++
	}
}

var linearKinds = []int{api.LinEq, api.LinLe, api.LinNe, api.LinReif}

func TestP10_1DrawnConstraints(t *testing.T) {
	draw := drawer(10)
	for _, kind := range linearKinds {
		var n counts
		for range 4000 {
			c, lists := drawnCase(draw, kind)
			n.add(lists, checkPlain(t, c, lists))
		}
		if n.none < 100 || n.same < 100 || n.less < 100 {
			t.Errorf("of kind %d there are too few cases of a sort: %+v", kind, n)
		}
	}
}

func TestP10_1WideDomains(t *testing.T) {
	draw := drawer(110)
	for _, kind := range linearKinds {
		var n counts
		for range 4000 {
			c, lists := drawnWide(draw, kind)
			n.add(lists, checkPlain(t, c, lists))
		}
		if n.none < 50 || n.same < 50 || n.less < 50 {
			t.Errorf("of kind %d there are too few cases of a sort: %+v", kind, n)
		}
	}
}

// apart: the same constraint, each place a variable by itself.
func apart(c api.Con) api.Con {
	return linear(c.Kind, c.K, c.C...)
}

func TestP10_2NoSolutionIsLost(t *testing.T) {
	draw := drawer(210)
	for _, kind := range linearKinds {
		solutions := 0
		for range 1500 {
			c, lists := drawnCase(draw, kind)
			left, _ := Filter(c, domains(t, lists))
			each(lists, func(a []int) {
				if !ground.Holds(apart(c), a) {
					return
				}
				solutions++
				for i, v := range a {
					if len(left) != len(a) || !left[i].Has(v) {
						t.Fatalf("P10.2: Filter(%v, %v): %v, the solution %v is lost", c, lists, listsOf(left), a)
					}
				}
			})
		}
		if solutions < 1000 {
			t.Errorf("of kind %d there are %d solutions", kind, solutions)
		}
	}
}

func TestP10_2LeftAgain(t *testing.T) {
	draw := drawer(310)
	for _, kind := range linearKinds {
		less := 0
		for i := range 6000 {
			drawn := drawnCase
			if i%2 == 1 {
				drawn = drawnWide
			}
			c, lists := drawn(draw, kind)
			left, ok := Filter(c, domains(t, lists))
			if !ok {
				continue
			}
			if !equalLists(listsOf(left), lists) {
				less++
			}
			again, ok := Filter(c, left)
			if !ok || !slices.EqualFunc(left, again, dom.Dom.Equal) {
				t.Errorf("P10.2: Filter(%v, %v): %v, again: %v", c, lists, listsOf(left), listsOf(again))
			}
		}
		if less < 200 {
			t.Errorf("of kind %d only %d have less left", kind, less)
		}
	}
}

func TestP10_2OneValueEach(t *testing.T) {
	draw := drawer(410)
	for _, kind := range linearKinds {
		met := map[bool]int{}
		for range 3000 {
			c, lists := drawnCase(draw, kind)
			total := 0
			for i := range lists {
				lists[i] = lists[i][:1]
				if i < len(c.C) {
					total += c.C[i] * lists[i][0]
				}
			}
			c.K = total + draw(3) - 1
			a := slices.Concat(lists...)
			holds := ground.Holds(apart(c), a)
			met[holds]++
			left, ok := Filter(c, domains(t, lists))
			if ok != holds || ok && !equalLists(listsOf(left), lists) {
				t.Errorf("P10.2: Filter(%v, %v): %v, %v, want %v", c, lists, listsOf(left), ok, holds)
			}
		}
		if met[true] < 500 || met[false] < 500 {
			t.Errorf("of kind %d hold %d, and %d don't", kind, met[true], met[false])
		}
	}
}
