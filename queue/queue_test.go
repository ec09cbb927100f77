package queue

import (
	"math"
	"slices"
	"testing"
)

// noNumbers of a queue of the numbers below n.
func noNumbers(n int) []int {
	return []int{-1, n, n + 1, -2, -n, math.MinInt, math.MinInt + 1, math.MaxInt - 1, math.MaxInt, -1 << 32, 1 << 32}
}

// pushed has a queue pushed, and holds what it answers against what it should.
func pushed(t *testing.T, q *Queue, id, bucket int, want bool) {
	t.Helper()
	if ok := q.Push(id, bucket); ok != want {
		t.Errorf("P4.1: Push(%d, %d): %v; want %v", id, bucket, ok, want)
	}
}

// checkHas holds what a queue tells of itself against the numbers below n that
// it should have.
func checkHas(t *testing.T, q *Queue, n int, want ...int) {
	t.Helper()
	if q.Len() != len(want) {
		t.Errorf("P4.1: Len %d; want %d", q.Len(), len(want))
	}
	for id := range n {
		if q.Has(id) != slices.Contains(want, id) {
			t.Errorf("P4.1: Has(%d): %v, of one that has %v", id, q.Has(id), want)
		}
	}
}

// checkPops holds what is popped, up to the last one, against what should be.
func checkPops(t *testing.T, q *Queue, want ...int) {
	t.Helper()
	for i, id := range want {
		if got, ok := q.Pop(); got != id || !ok {
			t.Fatalf("P4.1: Pop %d: %d, %v; want %d", i, got, ok, id)
		}
		if q.Has(id) || q.Len() != len(want)-i-1 {
			t.Errorf("P4.1: after Pop of %d: Has %v, Len %d", id, q.Has(id), q.Len())
		}
	}
	checkNone(t, q)
}

// checkNone: nothing is to be popped, and asking again changes nothing.
func checkNone(t *testing.T, q *Queue) {
	t.Helper()
	for range 2 {
		if id, ok := q.Pop(); id != 0 || ok || q.Len() != 0 {
			t.Errorf("P4.1: Pop of none: %d, %v, Len %d", id, ok, q.Len())
		}
	}
}

func TestP4_1Example(t *testing.T) {
	q := New(6)
	pushed(t, q, 3, 1, true)
	pushed(t, q, 5, 0, true)
	pushed(t, q, 3, 0, false)
	checkPops(t, q, 5, 3)
}

func TestP4_1NewHasNone(t *testing.T) {
	for _, n := range []int{0, 1, 2, 7, 1024} {
		q := New(n)
		checkHas(t, q, n)
		checkNone(t, q)
	}
}

func TestP4_1NoNumbers(t *testing.T) {
	for _, n := range []int{0, -1, -4, math.MinInt, math.MinInt + 1} {
		q := New(n)
		if q == nil {
			t.Fatalf("P4.1: New(%d) is nil", n)
		}
		for _, id := range append(noNumbers(0), 0, 1, n, n+1) {
			pushed(t, q, id, 0, false)
			if q.Has(id) {
				t.Errorf("P4.1: New(%d): Has(%d)", n, id)
			}
		}
		checkNone(t, q)
		q.Clear()
		pushed(t, q, 0, 0, false)
		checkNone(t, q)
	}
}

func TestP4_1NoSuchNumber(t *testing.T) {
	for _, n := range []int{1, 2, 5, 64, 65} {
		q := New(n)
		pushed(t, q, n-1, 2, true)
		for _, id := range noNumbers(n) {
			for _, bucket := range []int{0, 3, -1, 4} {
				pushed(t, q, id, bucket, false)
			}
			if q.Has(id) {
				t.Errorf("P4.1: of %d: Has(%d)", n, id)
			}
		}
		checkHas(t, q, n, n-1)
		checkPops(t, q, n-1)
	}
}

func TestP4_1GreatCounts(t *testing.T) {
	for _, n := range []int{1 << 31, 1 << 40, math.MaxInt - 1, math.MaxInt} {
		q := New(n)
		pushed(t, q, n-1, 1, true)
		pushed(t, q, 0, 1, true)
		pushed(t, q, n/2, 0, true)
		pushed(t, q, n-1, 0, false)
		pushed(t, q, n, 0, false)
		pushed(t, q, math.MaxInt, 0, false)
		if !q.Has(n-1) || q.Has(n) || q.Has(n-2) {
			t.Errorf("P4.1: of %d: Has", n)
		}
		checkPops(t, q, n/2, n-1, 0)
		q.Clear()
		pushed(t, q, n-1, 1, true)
		checkPops(t, q, n-1)
	}
}

func TestP4_1LowestBucketFirst(t *testing.T) {
	q := New(8)
	for id, bucket := range []int{3, 1, 2, 0, 2, 3, 0, 1} {
		pushed(t, q, id, bucket, true)
	}
	checkHas(t, q, 8, 0, 1, 2, 3, 4, 5, 6, 7)
	checkPops(t, q, 3, 6, 1, 7, 2, 4, 0, 5)
}

func TestP4_1FirstOfABucketFirst(t *testing.T) {
	ids := []int{4, 0, 9, 2, 7, 1, 8}
	for bucket := range 4 {
		q := New(10)
		for _, id := range ids {
			pushed(t, q, id, bucket, true)
		}
		checkHas(t, q, 10, ids...)
		checkPops(t, q, ids...)
	}
}

func TestP4_1BucketsBeyond(t *testing.T) {
	for _, below := range []int{-1, -2, -3, -4, -5, math.MinInt, math.MinInt + 1, -1 << 32} {
		for _, above := range []int{4, 5, 6, 7, 8, math.MaxInt, math.MaxInt - 1, 1 << 32} {
			q := New(8)
			pushed(t, q, 0, above, true)
			pushed(t, q, 1, 3, true)
			pushed(t, q, 2, above, true)
			pushed(t, q, 3, 2, true)
			pushed(t, q, 4, 1, true)
			pushed(t, q, 5, 0, true)
			pushed(t, q, 6, below, true)
			pushed(t, q, 7, 0, true)
			checkPops(t, q, 5, 6, 7, 4, 3, 0, 1, 2)
		}
	}
}

func TestP4_1TwiceIsRefused(t *testing.T) {
	for first := range 4 {
		for second := range 4 {
			q := New(3)
			pushed(t, q, 0, first, true)
			pushed(t, q, 1, first, true)
			// What it has stays where it is, also of a lower bucket.
			pushed(t, q, 1, second, false)
			pushed(t, q, 0, second, false)
			checkHas(t, q, 3, 0, 1)
			checkPops(t, q, 0, 1)
		}
	}
}

func TestP4_1AgainAfterPop(t *testing.T) {
	q := New(4)
	pushed(t, q, 2, 1, true)
	pushed(t, q, 3, 1, true)
	if id, ok := q.Pop(); id != 2 || !ok {
		t.Fatalf("P4.1: Pop: %d, %v", id, ok)
	}
	pushed(t, q, 2, 1, true)
	checkHas(t, q, 4, 2, 3)
	if id, ok := q.Pop(); id != 3 || !ok {
		t.Fatalf("P4.1: Pop: %d, %v", id, ok)
	}
	pushed(t, q, 3, 0, true)
	pushed(t, q, 0, 3, true)
	checkPops(t, q, 3, 2, 0)
	pushed(t, q, 0, 3, true)
	checkPops(t, q, 0)
}

func TestP4_1MoreUrgentMeanwhile(t *testing.T) {
	q := New(4)
	pushed(t, q, 0, 2, true)
	pushed(t, q, 1, 2, true)
	if id, _ := q.Pop(); id != 0 {
		t.Fatalf("P4.1: Pop: %d", id)
	}
	pushed(t, q, 2, 1, true)
	pushed(t, q, 3, 3, true)
	checkPops(t, q, 2, 1, 3)
}

func TestP4_1Clear(t *testing.T) {
	q := New(8)
	q.Clear()
	checkHas(t, q, 8)
	for id := range 8 {
		pushed(t, q, id, id%4, true)
	}
	if id, _ := q.Pop(); id != 0 {
		t.Fatalf("P4.1: Pop: %d", id)
	}
	for range 2 {
		q.Clear()
		checkHas(t, q, 8)
		checkNone(t, q)
	}
	// It is of the same numbers still, and nothing of before comes back.
	pushed(t, q, 8, 0, false)
	pushed(t, q, 7, 3, true)
	pushed(t, q, 0, 3, true)
	pushed(t, q, 5, 1, true)
	pushed(t, q, 7, 0, false)
	checkHas(t, q, 8, 0, 5, 7)
	checkPops(t, q, 5, 7, 0)
}

func TestP4_1Nil(t *testing.T) {
	var q *Queue
	for _, id := range append(noNumbers(1), 0) {
		pushed(t, q, id, 0, false)
		pushed(t, q, 0, id, false)
		if q.Has(id) {
			t.Errorf("P4.1: nil: Has(%d)", id)
		}
	}
	q.Clear()
	checkNone(t, q)
}

// entry of a plain queue: a number with its bucket.
type entry struct{ id, bucket int }

// plain queue: one list, all of which is gone through for the lowest bucket.
type plain struct {
	n int
	l []entry
}

func (p *plain) has(id int) bool {
	return slices.ContainsFunc(p.l, func(e entry) bool { return e.id == id })
}

func (p *plain) push(id, bucket int) bool {
	if id < 0 || id >= p.n || p.has(id) {
		return false
	}
	switch {
	case bucket < 0:
		bucket = 0
	case bucket > 3:
		bucket = 3
	}
	p.l = append(p.l, entry{id, bucket})
	return true
}

func (p *plain) pop() (int, bool) {
	for bucket := range 4 {
		for i, e := range p.l {
			if e.bucket == bucket {
				p.l = slices.Delete(p.l, i, i+1)
				return e.id, true
			}
		}
	}
	return 0, false
}

// drawer of numbers below n, the same ones for the same seed.
func drawer(seed uint32) func(n int) int {
	return func(n int) int {
		seed = seed*1664525 + 1013904223
		return int(uint64(seed) * uint64(n) >> 32)
	}
}

// step does one thing to both queues, and holds what they answer together.
func step(t *testing.T, q *Queue, p *plain, draw func(n int) int) {
	t.Helper()
	switch what := draw(100); {
	case what < 55:
		id, bucket := draw(p.n+4)-2, draw(8)-2
		if got, want := q.Push(id, bucket), p.push(id, bucket); got != want {
			t.Fatalf("P4.1: Push(%d, %d): %v; want %v", id, bucket, got, want)
		}
	case what < 99:
		got, ok := q.Pop()
		want, wanted := p.pop()
		if got != want || ok != wanted {
			t.Fatalf("P4.1: Pop: %d, %v; want %d, %v", got, ok, want, wanted)
		}
	default:
		q.Clear()
		p.l = nil
	}
	if q.Len() != len(p.l) {
		t.Fatalf("P4.1: Len %d; want %d", q.Len(), len(p.l))
	}
	for id := -2; id < p.n+2; id++ {
		if q.Has(id) != p.has(id) {
			t.Fatalf("P4.1: Has(%d): %v", id, q.Has(id))
		}
	}
}

func TestP4_1AsPlain(t *testing.T) {
	for seed := range uint32(60) {
		draw := drawer(seed)
		n := draw(30)
		q, p := New(n), &plain{n: n}
		for range 400 {
			step(t, q, p, draw)
		}
	}
}

func TestP4_2PushedIsPoppedOnce(t *testing.T) {
	const n = 500
	draw := drawer(4)
	q := New(n)
	pushes, pops := make([]int, n), make([]int, n)
	pop := func() bool {
		id, ok := q.Pop()
		if ok {
			pops[id]++
		}
		return ok
	}
	for range 20000 {
		if id := draw(n); q.Push(id, draw(4)) {
			pushes[id]++
		}
		if draw(3) == 0 {
			pop()
		}
	}
	for range n {
		pop()
	}
	if !slices.Equal(pushes, pops) || slices.Contains(pushes, 0) {
		t.Errorf("P4.2: pushed %v, popped %v", pushes, pops)
	}
	checkHas(t, q, n)
}

func TestP4_2ClearedIsNotPopped(t *testing.T) {
	q := New(10)
	for id := range 10 {
		pushed(t, q, id, id%4, true)
	}
	q.Clear()
	pushed(t, q, 9, 0, true)
	checkPops(t, q, 9)
	for id := range 10 {
		if q.Has(id) {
			t.Errorf("P4.2: Has(%d)", id)
		}
	}
}

func TestP4_2ManyInTurn(t *testing.T) {
	const n = 200000
	q := New(n)
	for id := range n {
		if !q.Push(id, 1) {
			t.Fatalf("P4.2: Push(%d)", id)
		}
	}
	for id := range n {
		got, ok := q.Pop()
		if got != id || !ok || !q.Push(got, 2) {
			t.Fatalf("P4.2: Pop: %d, %v; want %d", got, ok, id)
		}
	}
	for id := range n {
		if got, ok := q.Pop(); got != id || !ok {
			t.Fatalf("P4.2: Pop: %d, %v; want %d", got, ok, id)
		}
	}
	checkNone(t, q)
}

// A queue that is never empty, for long, holds no more memory than for what it
// has.
func TestP4_2KeepsNoMore(t *testing.T) {
	q := New(16)
	for id := range 8 {
		pushed(t, q, id, 3, true)
	}
	for i := range 100000 {
		if id, ok := q.Pop(); id != i%16 || !ok {
			t.Fatalf("P4.2: Pop %d: %d, %v", i, id, ok)
		}
		if !q.Push((i+8)%16, 3) {
			t.Fatalf("P4.2: Push %d", i)
		}
	}
	if room := cap(q.waiting[buckets-1]); room > 64 {
		t.Errorf("rule 8: room for %d numbers, of which 16 can be", room)
	}
}

func TestQueuesApart(t *testing.T) {
	a, b := New(4), New(4)
	pushed(t, a, 1, 0, true)
	pushed(t, b, 1, 3, true)
	pushed(t, b, 2, 0, true)
	checkHas(t, a, 4, 1)
	checkHas(t, b, 4, 1, 2)
	a.Clear()
	checkHas(t, b, 4, 1, 2)
	pushed(t, a, 3, 0, true)
	checkPops(t, b, 2, 1)
	checkHas(t, a, 4, 3)
	checkPops(t, a, 3)
}
