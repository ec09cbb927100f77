package dom

import (
	"math"
	"slices"
	"testing"

	"jigsaw/api"
)

// probes: numbers about the edges of words and of all that may be, and those
// that no domain has, up to the least and the greatest int.
func probes() []int {
	l := []int{math.MinInt, math.MinInt + 1, math.MinInt + 63, math.MinInt + 64, -1 << 62, math.MaxInt - 64, math.MaxInt - 63, math.MaxInt - 1, math.MaxInt, 1 << 62, 1 << 32, -1 << 32}
	for _, middle := range []int{-api.MaxValue, -api.MaxWidth, -128, -64, 0, 64, 128, 192, api.MaxWidth, api.MaxValue} {
		for d := -3; d <= 3; d++ {
			l = append(l, middle+d)
		}
	}
	return l
}

// subsets of numbers about the edges of three words, all of them but the
// empty one, rising.
func subsets() [][]int {
	numbers := []int{-65, -64, -1, 0, 1, 63, 64, 127}
	var all [][]int
	for bits := 1; bits < 1<<len(numbers); bits++ {
		var l []int
		for i, v := range numbers {
			if bits>>i&1 == 1 {
				l = append(l, v)
			}
		}
		all = append(all, l)
	}
	return all
}

func of(t *testing.T, l ...int) Dom {
	t.Helper()
	d, e := Of(l)
	if e != api.OK {
		t.Fatalf("Of(%v): %v", l, e)
	}
	return d
}

// numbersFrom low to high.
func numbersFrom(low, high int) []int {
	var l []int
	for v := low; v <= high; v++ {
		l = append(l, v)
	}
	return l
}

// keep those of l of which f is true.
func keep(l []int, f func(v int) bool) []int {
	var left []int
	for _, v := range l {
		if f(v) {
			left = append(left, v)
		}
	}
	return left
}

// changeOf a rising list of which the rising list left is left.
func changeOf(l, left []int) api.Change {
	switch {
	case len(left) == len(l):
		return api.Same
	case len(left) == 0:
		return api.Empty
	case len(left) == 1:
		return api.Fixed
	case left[0] != l[0] || left[len(left)-1] != l[len(l)-1]:
		return api.Bound
	}
	return api.Shrunk
}

// checkNumbers holds what is told of d against the rising list of its numbers.
func checkNumbers(t *testing.T, d Dom, want []int) {
	t.Helper()
	if l := d.List(); !slices.Equal(l, want) {
		t.Errorf("P2.2: List: %v; want %v", l, want)
	}
	least, greatest := 0, 0
	if len(want) > 0 {
		least, greatest = want[0], want[len(want)-1]
	}
	if d.Min() != least || d.Max() != greatest || d.Size() != len(want) {
		t.Errorf("P2.2: %v: Min %d, Max %d, Size %d", want, d.Min(), d.Max(), d.Size())
	}
}

// checkAsked holds Has, Next and Prev at v against the rising list of d's numbers.
func checkAsked(t *testing.T, d Dom, l []int, v int) {
	t.Helper()
	if has := d.Has(v); has != slices.Contains(l, v) {
		t.Errorf("P2.2: %v: Has(%d): %v", l, v, has)
	}
	next, up := 0, false
	if i := slices.IndexFunc(l, func(x int) bool { return x > v }); i >= 0 {
		next, up = l[i], true
	}
	if n, ok := d.Next(v); n != next || ok != up {
		t.Errorf("P2.2: %v: Next(%d): %d, %v; want %d, %v", l, v, n, ok, next, up)
	}
	prev, down := 0, false
	for _, x := range l {
		if x < v {
			prev, down = x, true
		}
	}
	if n, ok := d.Prev(v); n != prev || ok != down {
		t.Errorf("P2.2: %v: Prev(%d): %d, %v; want %d, %v", l, v, n, ok, prev, down)
	}
}

// checkLess holds what a call left of l's domain, and what became of it,
// against what should be left.
func checkLess(t *testing.T, call string, l, want []int, d Dom, c api.Change) {
	t.Helper()
	if left := d.List(); !slices.Equal(left, want) {
		t.Errorf("P2.3: %v: %s: %v; want %v", l, call, left, want)
	}
	if wanted := changeOf(l, want); c != wanted {
		t.Errorf("P2.3: %v: %s: change %d; want %d", l, call, c, wanted)
	}
	checkNumbers(t, d, want)
	if len(want) == 0 {
		if !d.Equal(Dom{}) || !(Dom{}).Equal(d) {
			t.Errorf("P2.2: %v: %s: not Equal to the zero Dom", l, call)
		}
		return
	}
	// However a set came about, it is the same set.
	made := of(t, want...)
	if !d.Equal(made) || !made.Equal(d) {
		t.Errorf("P2.2: %v: %s: not Equal to Of(%v)", l, call, want)
	}
}

// checkLessBy tries, at the number v, all calls that make d less by a number.
func checkLessBy(t *testing.T, d Dom, l []int, v int) {
	t.Helper()
	for _, x := range []struct {
		name string
		call func(int) (Dom, api.Change)
		left func(n int) bool
	}{
		{"Without", d.Without, func(n int) bool { return n != v }},
		{"Only", d.Only, func(n int) bool { return n == v }},
		{"AtLeast", d.AtLeast, func(n int) bool { return n >= v }},
		{"AtMost", d.AtMost, func(n int) bool { return n <= v }},
	} {
		e, c := x.call(v)
		checkLess(t, x.name, l, keep(l, x.left), e, c)
	}
}

func TestP2_1Range(t *testing.T) {
	const most, least = math.MaxInt, math.MinInt
	for _, x := range []struct {
		low, high int
		want      api.Errno
	}{
		{1, 5, api.OK},
		{3, 3, api.OK},
		{-3, 3, api.OK},
		{0, 0, api.OK},
		{api.MaxValue, api.MaxValue, api.OK},
		{-api.MaxValue, -api.MaxValue, api.OK},
		{0, api.MaxWidth - 1, api.OK},
		{-1, api.MaxWidth - 2, api.OK},
		{-api.MaxValue, api.MaxWidth - 1 - api.MaxValue, api.OK},
		{api.MaxValue - api.MaxWidth + 1, api.MaxValue, api.OK},
		{5, 4, api.ErrEmpty},
		{api.MaxValue, -api.MaxValue, api.ErrEmpty},
		{0, api.MaxWidth, api.ErrWide},
		{-1, api.MaxWidth - 1, api.ErrWide},
		{-api.MaxValue, api.MaxValue, api.ErrWide},
		{api.MaxValue - api.MaxWidth, api.MaxValue, api.ErrWide},
		{-api.MaxValue - 1, -api.MaxValue, api.ErrRange},
		{api.MaxValue, api.MaxValue + 1, api.ErrRange},
		{api.MaxValue + 1, api.MaxValue + 1, api.ErrRange},
		{-api.MaxValue - 1, -api.MaxValue - 1, api.ErrRange},
		{least, most, api.ErrRange},
		{least, 0, api.ErrRange},
		{0, most, api.ErrRange},
		// ErrRange is told ahead of ErrEmpty and of ErrWide.
		{api.MaxValue + 1, 0, api.ErrRange},
		{0, -api.MaxValue - 1, api.ErrRange},
		{most, least, api.ErrRange},
		{0, api.MaxValue + 1, api.ErrRange},
		{-api.MaxValue - 1, 0, api.ErrRange},
	} {
		d, e := Range(x.low, x.high)
		if e != x.want {
			t.Errorf("P2.1: Range(%d, %d): %v; want %v", x.low, x.high, e, x.want)
		}
		var want []int
		if x.want == api.OK {
			want = numbersFrom(x.low, x.high)
		}
		checkNumbers(t, d, want)
	}
}

func TestP2_1RangeAtEdgesOfWords(t *testing.T) {
	for low := -130; low <= 130; low++ {
		for high := low; high <= 130; high++ {
			d, e := Range(low, high)
			if e != api.OK {
				t.Fatalf("P2.1: Range(%d, %d): %v", low, high, e)
			}
			checkNumbers(t, d, numbersFrom(low, high))
		}
	}
}

func TestP2_1Of(t *testing.T) {
	const most, least = math.MaxInt, math.MinInt
	for _, x := range []struct {
		l, want []int
		e       api.Errno
	}{
		{[]int{3, 1, 3}, []int{1, 3}, api.OK},
		{[]int{7}, []int{7}, api.OK},
		{[]int{7, 7, 7}, []int{7}, api.OK},
		{[]int{0}, []int{0}, api.OK},
		{[]int{64, -64, 0, 63, -1, -65}, []int{-65, -64, -1, 0, 63, 64}, api.OK},
		{[]int{api.MaxWidth - 1, 0}, []int{0, api.MaxWidth - 1}, api.OK},
		{[]int{-api.MaxValue}, []int{-api.MaxValue}, api.OK},
		{[]int{api.MaxValue, api.MaxValue - api.MaxWidth + 1}, []int{api.MaxValue - api.MaxWidth + 1, api.MaxValue}, api.OK},
		{nil, nil, api.ErrEmpty},
		{[]int{}, nil, api.ErrEmpty},
		{[]int{api.MaxWidth, 0}, nil, api.ErrWide},
		{[]int{0, 5, api.MaxWidth}, nil, api.ErrWide},
		{[]int{-api.MaxValue, api.MaxValue}, nil, api.ErrWide},
		{[]int{api.MaxValue + 1}, nil, api.ErrRange},
		{[]int{-api.MaxValue - 1}, nil, api.ErrRange},
		{[]int{1, 2, most, 3}, nil, api.ErrRange},
		{[]int{1, least, 3}, nil, api.ErrRange},
		// ErrRange is told ahead of ErrWide, wherever the number stands.
		{[]int{0, api.MaxWidth, api.MaxValue + 1}, nil, api.ErrRange},
		{[]int{-api.MaxValue - 1, 0}, nil, api.ErrRange},
		{[]int{least, most}, nil, api.ErrRange},
	} {
		d, e := Of(x.l)
		if e != x.e {
			t.Errorf("P2.1: Of(%v): %v; want %v", x.l, e, x.e)
		}
		checkNumbers(t, d, x.want)
	}
}

func TestP2_1OfIsRange(t *testing.T) {
	low, high := -api.MaxWidth/2, api.MaxWidth/2-1
	l := numbersFrom(low, high)
	slices.Reverse(l)
	d, e := Of(l)
	r, _ := Range(low, high)
	if e != api.OK || d.Size() != api.MaxWidth || !d.Equal(r) || !r.Equal(d) {
		t.Errorf("P2.1: Of all of a range isn't that range: %v, %d", e, d.Size())
	}
}

// What is handed in isn't changed and not kept, and nothing behind its length
// is read.
func TestP2_1OfLeavesItsList(t *testing.T) {
	whole := []int{9, 4, 9, 500, 600}
	l := whole[:3]
	d := of(t, l...)
	if !slices.Equal(whole, []int{9, 4, 9, 500, 600}) {
		t.Errorf("P2.1: Of changed what it was handed: %v", whole)
	}
	l[0], l[1], l[2] = 1, 2, 3
	checkNumbers(t, d, []int{4, 9})
}

func TestP2_2AllSubsets(t *testing.T) {
	for _, l := range subsets() {
		d := of(t, l...)
		checkNumbers(t, d, l)
		for v := -130; v <= 195; v++ {
			checkAsked(t, d, l, v)
		}
		for _, v := range probes() {
			checkAsked(t, d, l, v)
		}
	}
}

func TestP2_2FarApart(t *testing.T) {
	for _, l := range [][]int{
		{-api.MaxValue, -api.MaxValue + 1, -api.MaxValue + api.MaxWidth - 1},
		{api.MaxValue - api.MaxWidth + 1, api.MaxValue - 1000, api.MaxValue},
		{-30000, 0, 30000},
		{api.MaxValue},
		{-api.MaxValue},
	} {
		d := of(t, l...)
		checkNumbers(t, d, l)
		for _, v := range append(probes(), l...) {
			checkAsked(t, d, l, v)
		}
	}
}

func TestP2_2Equal(t *testing.T) {
	all := subsets()
	for i, a := range all {
		if d := of(t, a...); d.Equal(Dom{}) || (Dom{}).Equal(d) {
			t.Errorf("P2.2: %v is Equal to none", a)
		}
		for j, b := range all {
			if same := of(t, a...).Equal(of(t, b...)); same != (i == j) {
				t.Errorf("P2.2: %v Equal %v: %v", a, b, same)
			}
		}
	}
	// The same bits in other words are other numbers.
	if of(t, 1, 2).Equal(of(t, 65, 66)) {
		t.Errorf("P2.2: 1, 2 is Equal to 65, 66")
	}
	if !(Dom{}).Equal(Dom{}) {
		t.Errorf("P2.2: none isn't Equal to none")
	}
}

func TestP2_2ListIsNew(t *testing.T) {
	d := of(t, 1, 2, 70)
	l, again := d.List(), d.List()
	l[0], l[1], l[2] = 5, 6, 7
	if !slices.Equal(again, []int{1, 2, 70}) {
		t.Errorf("P2.2: two lists share memory: %v", again)
	}
	_ = append(again[:1], 99)
	checkNumbers(t, d, []int{1, 2, 70})
}

func TestP2_3Examples(t *testing.T) {
	d, c := of(t, 3, 1, 3).Without(3)
	if !slices.Equal(d.List(), []int{1}) || c != api.Fixed {
		t.Errorf("P2.3: Of(3, 1, 3).Without(3): %v, %d", d.List(), c)
	}
}

// Each change, by itself and where several could be told.
func TestP2_3Changes(t *testing.T) {
	two, three := of(t, 1, 5), of(t, 1, 3, 5)
	for i, x := range []struct {
		call func() (Dom, api.Change)
		left []int
		want api.Change
	}{
		{func() (Dom, api.Change) { return three.Without(2) }, []int{1, 3, 5}, api.Same},
		{func() (Dom, api.Change) { return three.Without(3) }, []int{1, 5}, api.Shrunk},
		{func() (Dom, api.Change) { return three.Without(1) }, []int{3, 5}, api.Bound},
		{func() (Dom, api.Change) { return three.Without(5) }, []int{1, 3}, api.Bound},
		{func() (Dom, api.Change) { return two.Without(5) }, []int{1}, api.Fixed},
		{func() (Dom, api.Change) { return two.Without(1) }, []int{5}, api.Fixed},
		{func() (Dom, api.Change) { return of(t, 1).Without(1) }, nil, api.Empty},
		{func() (Dom, api.Change) { return of(t, 1).Only(1) }, []int{1}, api.Same},
		{func() (Dom, api.Change) { return of(t, 1).Only(2) }, nil, api.Empty},
		{func() (Dom, api.Change) { return three.Only(3) }, []int{3}, api.Fixed},
		{func() (Dom, api.Change) { return three.Only(4) }, nil, api.Empty},
		{func() (Dom, api.Change) { return three.AtLeast(1) }, []int{1, 3, 5}, api.Same},
		{func() (Dom, api.Change) { return three.AtLeast(2) }, []int{3, 5}, api.Bound},
		{func() (Dom, api.Change) { return three.AtLeast(4) }, []int{5}, api.Fixed},
		{func() (Dom, api.Change) { return three.AtLeast(6) }, nil, api.Empty},
		{func() (Dom, api.Change) { return three.AtMost(5) }, []int{1, 3, 5}, api.Same},
		{func() (Dom, api.Change) { return three.AtMost(4) }, []int{1, 3}, api.Bound},
		{func() (Dom, api.Change) { return three.AtMost(2) }, []int{1}, api.Fixed},
		{func() (Dom, api.Change) { return three.AtMost(0) }, nil, api.Empty},
		{func() (Dom, api.Change) { return three.And(three) }, []int{1, 3, 5}, api.Same},
		{func() (Dom, api.Change) { return three.And(two) }, []int{1, 5}, api.Shrunk},
		{func() (Dom, api.Change) { return two.And(three) }, []int{1, 5}, api.Same},
		{func() (Dom, api.Change) { return three.And(of(t, 3, 5, 500)) }, []int{3, 5}, api.Bound},
		{func() (Dom, api.Change) { return three.And(of(t, 3, 500)) }, []int{3}, api.Fixed},
		{func() (Dom, api.Change) { return three.And(of(t, 65, 67, 69)) }, nil, api.Empty},
		{func() (Dom, api.Change) { return three.Minus(of(t, 2, 65, 67)) }, []int{1, 3, 5}, api.Same},
		{func() (Dom, api.Change) { return three.Minus(of(t, 3, 500)) }, []int{1, 5}, api.Shrunk},
		{func() (Dom, api.Change) { return three.Minus(of(t, 5, 500)) }, []int{1, 3}, api.Bound},
		{func() (Dom, api.Change) { return three.Minus(two) }, []int{3}, api.Fixed},
		{func() (Dom, api.Change) { return two.Minus(three) }, nil, api.Empty},
	} {
		if d, c := x.call(); !slices.Equal(d.List(), x.left) || c != x.want {
			t.Errorf("P2.3: %d: %v, %d; want %v, %d", i, d.List(), c, x.left, x.want)
		}
	}
}

func TestP2_3ByNumbers(t *testing.T) {
	for _, l := range subsets() {
		d := of(t, l...)
		for _, v := range append(probes(), l...) {
			checkLessBy(t, d, l, v)
		}
		// What has been made less is a new set: this one is as it was.
		checkNumbers(t, d, l)
	}
}

func TestP2_3BySets(t *testing.T) {
	all := subsets()
	for _, a := range all {
		d := of(t, a...)
		for _, b := range all {
			e := of(t, b...)
			left, c := d.And(e)
			checkLess(t, "And", a, keep(a, func(v int) bool { return slices.Contains(b, v) }), left, c)
			left, c = d.Minus(e)
			checkLess(t, "Minus", a, keep(a, func(v int) bool { return !slices.Contains(b, v) }), left, c)
			if !slices.Equal(e.List(), b) {
				t.Fatalf("P2.3: %v was changed to %v", b, e.List())
			}
		}
		checkNumbers(t, d, a)
	}
}

func TestP2_3Wide(t *testing.T) {
	low := -1000
	high := low + api.MaxWidth - 1
	d, _ := Range(low, high)
	l := numbersFrom(low, high)
	for _, v := range []int{low - 1, low, low + 1, -64, 0, 63, 64, high - 1, high, high + 1, math.MinInt, math.MaxInt} {
		checkLessBy(t, d, l, v)
	}
	var even []int
	for v := low; v <= high; v += 2 {
		even = append(even, v)
	}
	e := of(t, even...)
	left, c := d.And(e)
	checkLess(t, "And", l, even, left, c)
	left, c = d.Minus(e)
	checkLess(t, "Minus", l, keep(l, func(v int) bool { return v%2 != 0 }), left, c)
	checkNumbers(t, d, l)
}

// A set that got less again and again, in all ways, is what a plain list is.
func TestP2_3Chains(t *testing.T) {
	seed := uint32(7)
	draw := func(n int) int {
		seed = seed*1664525 + 1013904223
		return int(seed>>8) % n
	}
	for range 300 {
		low := draw(400) - 200
		high := low + draw(300)
		d, _ := Range(low, high)
		l := numbersFrom(low, high)
		for len(l) > 0 {
			v := low + draw(high-low+1)
			other, _ := Range(v, v+draw(40))
			var left []int
			var e Dom
			var c api.Change
			switch draw(5) {
			case 0:
				left = keep(l, func(n int) bool { return n != v })
				e, c = d.Without(v)
			case 1:
				left = keep(l, func(n int) bool { return n >= v })
				e, c = d.AtLeast(v)
			case 2:
				left = keep(l, func(n int) bool { return n <= v })
				e, c = d.AtMost(v)
			case 3:
				left = keep(l, func(n int) bool { return !other.Has(n) })
				e, c = d.Minus(other)
			case 4:
				left = keep(l, other.Has)
				e, c = d.And(other)
			}
			checkLess(t, "chain", l, left, e, c)
			checkNumbers(t, d, l)
			d, l = e, left
		}
	}
}

// The zero Dom has none, whatever is asked (P1: nothing panics).
func TestZeroDom(t *testing.T) {
	var d Dom
	checkNumbers(t, d, nil)
	for _, v := range probes() {
		checkAsked(t, d, nil, v)
		checkLessBy(t, d, nil, v)
	}
	some := of(t, -64, 0, 63)
	e, c := d.And(some)
	checkLess(t, "And", nil, nil, e, c)
	e, c = d.Minus(some)
	checkLess(t, "Minus", nil, nil, e, c)
	e, c = d.And(d)
	checkLess(t, "And", nil, nil, e, c)
	e, c = d.Minus(d)
	checkLess(t, "Minus", nil, nil, e, c)
	e, c = some.And(d)
	checkLess(t, "And", some.List(), nil, e, c)
	e, c = some.Minus(d)
	checkLess(t, "Minus", some.List(), some.List(), e, c)
}

// Each set keeps its numbers, whatever is made of it (P2).
func TestDomsApart(t *testing.T) {
	d := of(t, 1, 2, 3, 64, 65)
	a, _ := d.Without(2)
	b, _ := d.AtLeast(3)
	same, _ := d.AtMost(100)
	c, _ := same.Without(64)
	checkNumbers(t, d, []int{1, 2, 3, 64, 65})
	checkNumbers(t, a, []int{1, 3, 64, 65})
	checkNumbers(t, b, []int{3, 64, 65})
	checkNumbers(t, same, []int{1, 2, 3, 64, 65})
	checkNumbers(t, c, []int{1, 2, 3, 65})
}
