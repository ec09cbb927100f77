package ground

import (
	"fmt"
	"slices"
	"strconv"
	"testing"

	"jigsaw/api"
	"jigsaw/model"
)

// drawer: numbers from 0 to below n that are the same in every run.
func drawer(seed uint32) func(n int) int {
	return func(n int) int {
		seed = seed*1664525 + 1013904223
		return int(uint64(seed) * uint64(n) >> 32)
	}
}

// drawnNumbers, n of them, from low to high.
func drawnNumbers(draw func(n int) int, n, low, high int) []int {
	l := make([]int, n)
	for i := range l {
		l[i] = low + draw(high-low+1)
	}
	return l
}

// plainHolds: does a constraint that may be hold of small values? Each kind is
// worked out in another way than the layer does.
func plainHolds(c api.Con, a []int) bool {
	var x, y []int
	for _, v := range c.A {
		x = append(x, a[v])
	}
	for _, v := range c.B {
		y = append(y, a[v])
	}
	switch c.Kind {
	case api.LinEq:
		return plainOver(c, x) == 0
	case api.LinLe:
		return plainOver(c, x) <= 0
	case api.LinNe:
		return plainOver(c, x) != 0
	case api.LinReif:
		return y[0] == 1 && plainOver(c, x) <= 0 || y[0] == 0 && plainOver(c, x) > 0
	case api.EqReif:
		return y[0] == 1 && x[0] == c.K || y[0] == 0 && x[0] != c.K
	case api.LeReif:
		return y[0] == 1 && x[0] <= c.K || y[0] == 0 && x[0] > c.K
	case api.EqImp:
		return (y[0] == 0 || y[0] == 1) && (y[0] != 1 || x[0] == c.K)
	case api.LeImp:
		return (y[0] == 0 || y[0] == 1) && (y[0] != 1 || x[0] <= c.K)
	}
	return plainRelation(c, x, y)
}

// plainOver: how much more a sum is than K.
func plainOver(c api.Con, x []int) int {
	over := -c.K
	for i := len(x) - 1; i >= 0; i-- {
		over += x[i] * c.C[i]
	}
	return over
}

// plainRelation of the kinds without a K, and of Cumulative.
func plainRelation(c api.Con, x, y []int) bool {
	switch c.Kind {
	case api.Times:
		return plainTimes(x[0], x[1]) == x[2]
	case api.Div:
		q, _ := plainDivided(x[0], x[1])
		return x[1] != 0 && x[2] == q
	case api.Mod:
		_, r := plainDivided(x[0], x[1])
		return x[1] != 0 && x[2] == r
	case api.Abs:
		return x[1] >= 0 && (x[1] == x[0] || x[1]+x[0] == 0)
	case api.Min:
		return x[2] <= x[0] && x[2] <= x[1] && (x[2] == x[0] || x[2] == x[1])
	case api.Max:
		return x[2] >= x[0] && x[2] >= x[1] && (x[2] == x[0] || x[2] == x[1])
	case api.Element:
		found := false
		for i, v := range c.C {
			found = found || x[0] == i+1 && x[1] == v
		}
		return found
	case api.Clause:
		found := false
		for _, v := range x {
			found = found || v == 1
		}
		for _, v := range y {
			found = found || v == 0
		}
		return found
	}
	return plainLists(c, x, y)
}

// plainTimes by adding.
func plainTimes(a, b int) int {
	n := 0
	for range max(b, -b) {
		n += a
	}
	if b < 0 {
		return -n
	}
	return n
}

// plainDivided by taking away: quotient and remainder; 0 and 0 by 0.
func plainDivided(a, b int) (int, int) {
	if b == 0 {
		return 0, 0
	}
	q, r := 0, max(a, -a)
	for r >= max(b, -b) {
		q, r = q+1, r-max(b, -b)
	}
	if (a < 0) != (b < 0) {
		q = -q
	}
	if a < 0 {
		r = -r
	}
	return q, r
}

// plainLists: kinds of lists of variables.
func plainLists(c api.Con, x, y []int) bool {
	n := len(x)
	counts := map[int]int{}
	for _, v := range x {
		counts[v]++
	}
	switch c.Kind {
	case api.AllDiff:
		return len(counts) == n
	case api.Table:
		for _, row := range c.Rows {
			if fmt.Sprint(row) == fmt.Sprint(x) {
				return true
			}
		}
		return false
	case api.Cumulative:
		return plainTasks(c, x)
	case api.Circuit:
		return plainRound(x)
	case api.Gcc:
		for i, v := range c.C {
			if counts[v] < c.D[i] || counts[v] > c.E[i] {
				return false
			}
		}
		return true
	case api.LexLe:
		return n == 0 || x[0] < y[0] || x[0] == y[0] && plainLists(c, x[1:], y[1:])
	}
	for i := range n { // Inverse
		for j := range n {
			if (x[i] == j+1) != (y[j] == i+1) {
				return false
			}
		}
		if min(x[i], y[i]) < 1 || max(x[i], y[i]) > n {
			return false
		}
	}
	return true
}

// plainTasks: what runs at each time, one by one.
func plainTasks(c api.Con, x []int) bool {
	needed := map[int]int{}
	for i, begin := range x {
		for time := range c.C[i] {
			needed[begin+time] += c.D[i]
		}
	}
	for _, n := range needed {
		if n > c.K {
			return false
		}
	}
	return true
}

// plainRound: are all places met within as many steps, the first one at the
// end?
func plainRound(x []int) bool {
	met := map[int]bool{}
	at := 1
	for range x {
		if at < 1 || at > len(x) {
			return false
		}
		met[at] = true
		at = x[at-1]
	}
	return at == 1 && len(met) == len(x)
}

// each of all lists of n values from low to high.
func each(n, low, high int, do func(a []int)) {
	a := same(low, n)
	for {
		do(a)
		i := 0
		for i < n && a[i] == high {
			a[i] = low
			i++
		}
		if i == n {
			return
		}
		a[i]++
	}
}

// drawnCon of a kind, with small numbers.
func drawnCon(draw func(n int) int, kind, vars int) api.Con {
	n := 1 + draw(4)
	numbers := func(n, low, high int) []int { return drawnNumbers(draw, n, low, high) }
	places := func(n int) []int { return numbers(n, 0, vars-1) }
	c := api.Con{Kind: kind, A: places(n)}
	switch model.Shape(kind) {
	case "vvv":
		c.A = places(3)
	case "vv":
		c.A = places(2)
	case "vkw":
		c.A, c.B, c.K = places(1), places(1), draw(6)-2
	case "vcv":
		c.A, c.C = places(2), numbers(n, -2, 4)
	case "cVk":
		c.C, c.K = numbers(n, -3, 3), draw(13)-6
	case "cVkw":
		c.C, c.K, c.B = numbers(n, -3, 3), draw(13)-6, places(1)
	case "VW":
		c.B = places(n)
		if kind == api.Clause {
			c.A, c.B = places(draw(n+1)), places(1+draw(n))
		}
	case "Vr":
		for range 1 + draw(9) {
			c.Rows = append(c.Rows, numbers(n, -1, 3))
		}
	case "Vcdk":
		c.C, c.D, c.K = numbers(n, 0, 4), numbers(n, 0, 3), draw(8)
	case "Vcde":
		c.C = slices.Compact(slices.Sorted(slices.Values(numbers(n, -1, 3))))
		c.D = numbers(len(c.C), 0, 1)
		c.E = numbers(len(c.C), 1, 2)
	}
	return c
}

func TestP9_1DrawnConstraints(t *testing.T) {
	draw := drawer(9)
	for kind := api.LinEq; kind <= api.Inverse; kind++ {
		met := map[bool]int{}
		for range 80 {
			c := drawnCon(draw, kind, 4)
			each(4, -2, 4, func(a []int) {
				want := plainHolds(c, a)
				met[want]++
				if got := Holds(c, a); got != want {
					t.Errorf("P9.1: Holds(%v, %v): %v, want %v", c, a, got, want)
				}
			})
		}
		if met[true] < 100 || met[false] < 100 {
			t.Errorf("of kind %d hold %d, and %d don't", kind, met[true], met[false])
		}
	}
}

// faculty: in how many orders n things stand.
func faculty(n int) int {
	if n == 0 {
		return 1
	}
	return n * faculty(n-1)
}

// There are as many values of which these hold as is known of such things.
func TestP9_1HowMany(t *testing.T) {
	count := func(c api.Con, vars, low, high, want int) {
		t.Helper()
		n := 0
		each(vars, low, high, func(a []int) {
			got := Holds(c, a)
			if got {
				n++
			}
			if got != plainHolds(c, a) {
				t.Errorf("P9.1: Holds(%v, %v): %v", c, a, got)
			}
		})
		if n != want {
			t.Errorf("P9.1: %v holds of %d, want %d", c, n, want)
		}
	}
	for n := 1; n <= 5; n++ {
		count(api.Con{Kind: api.Circuit, A: rising(0, n)}, n, -1, n+1, faculty(n-1))
		count(api.Con{Kind: api.AllDiff, A: rising(0, n)}, n, 0, n+1, faculty(n+2)/2)
	}
	for n := 1; n <= 3; n++ {
		count(api.Con{Kind: api.Inverse, A: rising(0, n), B: rising(n, n)}, 2*n, 0, n+1, faculty(n))
		all := 1
		for range n {
			all *= 4
		}
		count(api.Con{Kind: api.LexLe, A: rising(0, n), B: rising(n, n)}, 2*n, -1, 2, all*(all+1)/2)
	}
	count(api.Con{Kind: api.Div, A: rising(0, 3)}, 3, -9, 9, 19*18)
	count(api.Con{Kind: api.Mod, A: rising(0, 3)}, 3, -9, 9, 19*18)
	count(api.Con{Kind: api.Min, A: rising(0, 3)}, 3, -9, 9, 19*19)
	count(api.Con{Kind: api.Max, A: rising(0, 3)}, 3, -9, 9, 19*19)
	count(api.Con{Kind: api.Abs, A: rising(0, 2)}, 2, -9, 9, 19)
}

// drawnModel that may be, of four variables.
func drawnModel(draw func(n int) int) api.Model {
	var m api.Model
	for i := range 4 {
		m.Names = append(m.Names, "x"+strconv.Itoa(i))
		m.Doms = append(m.Doms, slices.Compact(slices.Sorted(slices.Values(drawnNumbers(draw, 1+draw(6), -2, 4)))))
	}
	for range draw(5) {
		m.Cons = append(m.Cons, drawnCon(draw, 1+draw(23), 4))
	}
	m.Goal = draw(3)
	if m.Goal != api.Satisfy {
		m.Obj = draw(4)
	}
	return m
}

// plainBroken: the first constraint that doesn't hold, else -1.
func plainBroken(m api.Model, a []int) int {
	at := -1
	for i := len(m.Cons) - 1; i >= 0; i-- {
		if !plainHolds(m.Cons[i], a) {
			at = i
		}
	}
	return at
}

func TestP9_1DrawnModels(t *testing.T) {
	draw := drawer(19)
	solutions := 0
	for range 200 {
		m := drawnModel(draw)
		each(4, -2, 4, func(a []int) {
			at := plainBroken(m, a)
			if n, broken := Broken(m, a); n != max(0, at) || broken != (at >= 0) {
				t.Errorf("P9.1: Broken(%v, %v): %d, %v, want %d", m, a, n, broken, at)
			}
			want := at < 0
			for v := range a {
				want = want && slices.Contains(m.Doms[v], a[v])
			}
			if got := Solution(m, a); got != want {
				t.Errorf("P9.1: Solution(%v, %v): %v, want %v", m, a, got, want)
			}
			if want {
				solutions++
			}
		})
	}
	if solutions < 100 {
		t.Errorf("there are %d solutions", solutions)
	}
}
