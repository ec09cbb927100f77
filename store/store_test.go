package store

import (
	"math"
	"slices"
	"testing"

	"jigsaw/api"
	"jigsaw/dom"
)

// of some numbers; the zero Dom of none.
func of(l ...int) dom.Dom {
	d, _ := dom.Of(l)
	return d
}

// doms of some lists.
func doms(lists ...[]int) []dom.Dom {
	var l []dom.Dom
	for _, x := range lists {
		l = append(l, of(x...))
	}
	return l
}

// noPlaces of a store with n variables.
func noPlaces(n int) []int {
	return []int{-1, n, n + 1, -2, math.MinInt, math.MinInt + 1, math.MaxInt - 1, math.MaxInt, -1 << 32, 1 << 32}
}

// checkDoms holds all that is told of a store's domains against plain lists.
func checkDoms(t *testing.T, promise string, s *Store, want ...[]int) {
	t.Helper()
	if s.Len() != len(want) {
		t.Fatalf("%s: Len %d; want %d", promise, s.Len(), len(want))
	}
	failed, found := 0, false
	for i, l := range want {
		if d := s.Get(i); !slices.Equal(d.List(), l) || !d.Equal(of(l...)) {
			t.Errorf("%s: Get(%d): %v; want %v", promise, i, d.List(), l)
		}
		value, one := 0, len(l) == 1
		if one {
			value = l[0]
		}
		if v, ok := s.Fixed(i); v != value || ok != one {
			t.Errorf("%s: Fixed(%d) of %v: %d, %v", promise, i, l, v, ok)
		}
		if len(l) == 0 && !found {
			failed, found = i, true
		}
	}
	if i, ok := s.Failed(); i != failed || ok != found {
		t.Errorf("%s: Failed: %d, %v; want %d, %v", promise, i, ok, failed, found)
	}
}

// checkLevel holds a store's level against what it should be.
func checkLevel(t *testing.T, s *Store, want int) {
	t.Helper()
	if s.Level() != want {
		t.Errorf("P3.3: Level %d; want %d", s.Level(), want)
	}
}

// checkNarrow narrows, and holds what became of the domain against what should have.
func checkNarrow(t *testing.T, s *Store, i int, d dom.Dom, want api.Change) {
	t.Helper()
	if c := s.Narrow(i, d); c != want {
		t.Errorf("P3.2: Narrow(%d, %v): %d; want %d", i, d.List(), c, want)
	}
}

// checkEvents asks for the events, and holds them against what they should be.
func checkEvents(t *testing.T, s *Store, want ...Event) {
	t.Helper()
	if l := s.Events(); !slices.Equal(l, want) {
		t.Errorf("P3.2: Events: %v; want %v", l, want)
	}
}

// checkBack goes back, and holds what it answers, and the level, against what these should be.
func checkBack(t *testing.T, s *Store, level int) {
	t.Helper()
	if e := s.Back(level); e != api.OK {
		t.Errorf("P3.3: Back(%d): %v", level, e)
	}
	checkLevel(t, s, level)
}

func TestP3_1New(t *testing.T) {
	lists := [][]int{{1, 2, 3}, {5}, {-api.MaxValue, -api.MaxValue + 70}, {0}, {api.MaxValue}, {0, 64}}
	s := New(doms(lists...))
	checkDoms(t, "P3.1", s, lists...)
	checkLevel(t, s, 0)
	checkEvents(t, s)
	wide, _ := dom.Range(0, api.MaxWidth-1)
	if s := New([]dom.Dom{wide}); !s.Get(0).Equal(wide) {
		t.Errorf("P3.1: Get of the widest domain: %d numbers", s.Get(0).Size())
	}
}

func TestP3_1NoVariables(t *testing.T) {
	for _, l := range [][]dom.Dom{nil, {}} {
		s := New(l)
		if s == nil {
			t.Fatalf("P3.1: no store of no domains")
		}
		checkDoms(t, "P3.1", s)
		checkNarrow(t, s, 0, of(1), api.Same)
		s.Push()
		checkLevel(t, s, 1)
		checkEvents(t, s)
		checkBack(t, s, 0)
		if e := s.Back(1); e != api.ErrArg {
			t.Errorf("P3.3: Back(1): %v", e)
		}
	}
}

func TestP3_1Failed(t *testing.T) {
	checkDoms(t, "P3.1", New(doms([]int{1}, []int{}, []int{2, 3}, []int{})), []int{1}, nil, []int{2, 3}, nil)
	checkDoms(t, "P3.1", New(doms([]int{}, []int{1})), nil, []int{1})
	checkDoms(t, "P3.1", New(make([]dom.Dom, 1)), nil)
	// The first one is by its place, not by what was narrowed first.
	s := New(doms([]int{1}, []int{2}, []int{3}))
	s.Narrow(2, of(1))
	checkDoms(t, "P3.1", s, []int{1}, []int{2}, nil)
	s.Narrow(1, of(1))
	checkDoms(t, "P3.1", s, []int{1}, nil, nil)
	s.Narrow(0, of(2))
	checkDoms(t, "P3.1", s, nil, nil, nil)
}

func TestP3_1NoSuchVariable(t *testing.T) {
	s := New(doms([]int{4}, []int{5}))
	for _, i := range noPlaces(2) {
		if d := s.Get(i); d.Size() != 0 || !d.Equal(dom.Dom{}) {
			t.Errorf("P3.1: Get(%d): %v", i, d.List())
		}
		if v, ok := s.Fixed(i); v != 0 || ok {
			t.Errorf("P3.1: Fixed(%d): %d, %v", i, v, ok)
		}
	}
}

// What is handed in isn't changed and not kept, and nothing behind its length
// is read.
func TestP3_1NewLeavesItsList(t *testing.T) {
	whole := doms([]int{1, 2}, []int{3, 4}, []int{5})
	s := New(whole[:2])
	checkDoms(t, "P3.1", s, []int{1, 2}, []int{3, 4})
	s.Narrow(0, of(1))
	if !whole[0].Equal(of(1, 2)) || !whole[2].Equal(of(5)) {
		t.Errorf("P3.1: what was handed in is changed")
	}
	whole[0], whole[1] = of(8), of(9)
	checkDoms(t, "P3.1", s, []int{1}, []int{3, 4})
}

func TestP3_2Changes(t *testing.T) {
	for _, x := range []struct {
		domain, other, left []int
		want                api.Change
	}{
		{[]int{1, 3, 5}, []int{1, 3, 5}, []int{1, 3, 5}, api.Same},
		{[]int{1, 3, 5}, []int{0, 1, 2, 3, 4, 5, 600}, []int{1, 3, 5}, api.Same},
		{[]int{1, 3, 5}, []int{1, 5, 7}, []int{1, 5}, api.Shrunk},
		{[]int{1, 3, 5}, []int{3, 5}, []int{3, 5}, api.Bound},
		{[]int{1, 3, 5}, []int{1, 3}, []int{1, 3}, api.Bound},
		{[]int{1, 3, 5}, []int{3}, []int{3}, api.Fixed},
		{[]int{1, 3}, []int{3, 9}, []int{3}, api.Fixed},
		{[]int{1, 3, 5}, []int{2, 4}, nil, api.Empty},
		{[]int{1, 3, 5}, nil, nil, api.Empty},
		{[]int{3}, []int{3, 4}, []int{3}, api.Same},
		{[]int{3}, []int{4}, nil, api.Empty},
		// No number goes of none.
		{nil, []int{1}, nil, api.Same},
		{nil, nil, nil, api.Same},
	} {
		s := New(doms([]int{7, 8}, x.domain, []int{7, 8}))
		other := of(x.other...)
		checkNarrow(t, s, 1, other, x.want)
		checkDoms(t, "P3.2", s, []int{7, 8}, x.left, []int{7, 8})
		if !other.Equal(of(x.other...)) {
			t.Errorf("P3.2: %v was changed to %v", x.other, other.List())
		}
		if x.want == api.Same {
			checkEvents(t, s)
		} else {
			checkEvents(t, s, Event{1, x.want})
		}
	}
}

func TestP3_2NoSuchVariable(t *testing.T) {
	s := New(doms([]int{1, 2}, []int{1, 2}))
	for _, i := range noPlaces(2) {
		checkNarrow(t, s, i, of(1), api.Same)
		checkNarrow(t, s, i, dom.Dom{}, api.Same)
	}
	checkDoms(t, "P3.2", s, []int{1, 2}, []int{1, 2})
	checkEvents(t, s)
}

// Events are told in the order in which they were, each time that a domain got
// less, whatever the level; asked twice, there are none.
func TestP3_2Events(t *testing.T) {
	s := New(doms([]int{1, 2, 3, 4}, []int{1, 2, 3, 4}))
	checkNarrow(t, s, 1, of(1, 2, 4), api.Shrunk)
	checkNarrow(t, s, 0, of(2, 3, 4), api.Bound)
	checkNarrow(t, s, 0, of(2, 3, 4), api.Same)
	s.Push()
	checkNarrow(t, s, 1, of(1, 4), api.Shrunk)
	s.Push()
	checkNarrow(t, s, 1, of(4), api.Fixed)
	checkEvents(t, s, Event{1, api.Shrunk}, Event{0, api.Bound}, Event{1, api.Shrunk}, Event{1, api.Fixed})
	checkEvents(t, s)
	checkEvents(t, s)
	checkNarrow(t, s, 1, of(9), api.Empty)
	checkNarrow(t, s, 1, of(9), api.Same)
	checkNarrow(t, s, 0, of(2, 4), api.Shrunk)
	checkEvents(t, s, Event{1, api.Empty}, Event{0, api.Shrunk})
	checkEvents(t, s)
	// Asking changes nothing else.
	checkDoms(t, "P3.2", s, []int{2, 4}, nil)
	checkLevel(t, s, 2)
}

// Lists of events share no memory with one another or with the store.
func TestP3_2EventsAreNew(t *testing.T) {
	s := New(doms([]int{1, 2, 3, 4, 5, 6}))
	for _, v := range []int{5, 4, 3} {
		below, _ := dom.Range(1, v)
		s.Narrow(0, below)
	}
	first := s.Events()
	s.Narrow(0, of(1, 3))
	s.Narrow(0, of(1))
	longer := append(first[:1], Event{8, api.Same}, Event{9, api.Same}, Event{10, api.Same}, Event{11, api.Same})
	second := s.Events()
	if !slices.Equal(second, []Event{{0, api.Shrunk}, {0, api.Fixed}}) {
		t.Errorf("P3.2: the events are %v", second)
	}
	second[0] = Event{12, api.Same}
	s.Narrow(0, of(2))
	checkEvents(t, s, Event{0, api.Empty})
	if !slices.Equal(longer, []Event{{0, api.Bound}, {8, api.Same}, {9, api.Same}, {10, api.Same}, {11, api.Same}}) {
		t.Errorf("P3.2: a list that was handed out is changed: %v", longer)
	}
}

func TestP3_3Example(t *testing.T) {
	s := New(doms([]int{1, 2, 3}))
	s.Push()
	checkNarrow(t, s, 0, of(2), api.Fixed)
	checkDoms(t, "P3.3", s, []int{2})
	checkBack(t, s, 0)
	checkDoms(t, "P3.3", s, []int{1, 2, 3})
	checkEvents(t, s)
}

// climb: a store at the level 4, of which one variable got less at each level
// but 2, ahead of the Push and twice at a time; and what it is at each level.
func climb() (*Store, [][][]int) {
	s := New(doms([]int{1, 2, 3, 4, 5, 6, 7, 8, 9}, []int{1, 2}, []int{5}))
	s.Narrow(0, of(1, 2, 3, 4, 5, 6, 7))
	s.Push()
	s.Narrow(0, of(1, 2, 3, 4, 5, 6))
	s.Narrow(0, of(1, 2, 3, 4, 5))
	s.Push()
	s.Push()
	s.Narrow(0, of(2, 3, 4, 5))
	s.Narrow(1, of(2))
	s.Narrow(0, of(2, 3, 5))
	s.Push()
	s.Narrow(0, of(3))
	s.Narrow(2, of(6))
	return s, [][][]int{
		{{1, 2, 3, 4, 5, 6, 7}, {1, 2}, {5}},
		{{1, 2, 3, 4, 5}, {1, 2}, {5}},
		{{1, 2, 3, 4, 5}, {1, 2}, {5}},
		{{2, 3, 5}, {2}, {5}},
		{{3}, {2}, nil},
	}
}

// What was narrowed at a level ahead of the Push that ended it stays so.
func TestP3_3BackToEach(t *testing.T) {
	for level := range 5 {
		s, want := climb()
		checkLevel(t, s, 4)
		checkDoms(t, "P3.3", s, want[4]...)
		checkBack(t, s, level)
		checkDoms(t, "P3.3", s, want[level]...)
		checkEvents(t, s)
		for below := level; below >= 0; below-- {
			checkBack(t, s, below)
			checkDoms(t, "P3.3", s, want[below]...)
		}
	}
}

// Back to the same level leaves the domains, and no events.
func TestP3_3BackToTheSame(t *testing.T) {
	s := New(doms([]int{1, 2, 3}, []int{4, 5}))
	checkNarrow(t, s, 0, of(1, 2), api.Bound)
	checkBack(t, s, 0)
	checkDoms(t, "P3.3", s, []int{1, 2}, []int{4, 5})
	checkEvents(t, s)
	s.Push()
	checkNarrow(t, s, 0, of(2), api.Fixed)
	checkNarrow(t, s, 1, of(6), api.Empty)
	checkBack(t, s, 1)
	checkBack(t, s, 1)
	checkDoms(t, "P3.3", s, []int{2}, nil)
	checkEvents(t, s)
	checkBack(t, s, 0)
	checkDoms(t, "P3.3", s, []int{1, 2}, []int{4, 5})
}

// What was ended by the last Push counts, not what was ended by an earlier one.
func TestP3_3LevelsAgain(t *testing.T) {
	s := New(doms([]int{1, 2, 3, 4, 5}))
	s.Push()
	s.Narrow(0, of(1, 2, 3, 4))
	s.Push()
	s.Narrow(0, of(1))
	checkBack(t, s, 1)
	checkDoms(t, "P3.3", s, []int{1, 2, 3, 4})
	s.Narrow(0, of(2, 3, 4))
	s.Push()
	s.Narrow(0, of(4))
	checkBack(t, s, 1)
	checkDoms(t, "P3.3", s, []int{2, 3, 4})
	checkBack(t, s, 0)
	checkDoms(t, "P3.3", s, []int{1, 2, 3, 4, 5})
	s.Narrow(0, of(3, 4, 5))
	s.Push()
	checkDoms(t, "P3.3", s, []int{3, 4, 5})
	s.Narrow(0, of(5))
	checkBack(t, s, 0)
	checkDoms(t, "P3.3", s, []int{3, 4, 5})
}

// Events of other levels are gone with a Back, those behind it are told.
func TestP3_3BackLeavesNoEvents(t *testing.T) {
	s := New(doms([]int{1, 2, 3}, []int{4, 5}))
	s.Narrow(0, of(1, 2))
	s.Push()
	s.Narrow(1, of(4))
	checkBack(t, s, 0)
	checkEvents(t, s)
	checkNarrow(t, s, 1, of(5), api.Fixed)
	checkEvents(t, s, Event{1, api.Fixed})
	s.Push()
	checkNarrow(t, s, 0, of(9), api.Empty)
	checkBack(t, s, 0)
	checkNarrow(t, s, 0, of(2), api.Fixed)
	checkEvents(t, s, Event{0, api.Fixed})
}

// A refused Back leaves domains, level and events.
func TestP3_3NoSuchLevel(t *testing.T) {
	s := New(doms([]int{1, 2, 3}))
	for _, level := range noPlaces(1) {
		if e := s.Back(level); e != api.ErrArg {
			t.Errorf("P3.3: at 0: Back(%d): %v", level, e)
		}
	}
	s.Push()
	s.Push()
	s.Narrow(0, of(1, 3))
	for _, level := range noPlaces(3) {
		if e := s.Back(level); e != api.ErrArg {
			t.Errorf("P3.3: at 2: Back(%d): %v", level, e)
		}
	}
	checkLevel(t, s, 2)
	checkDoms(t, "P3.3", s, []int{1, 3})
	checkEvents(t, s, Event{0, api.Shrunk})
	checkBack(t, s, 0)
	if e := s.Back(1); e != api.ErrArg {
		t.Errorf("P3.3: at 0 again: Back(1): %v", e)
	}
	checkDoms(t, "P3.3", s, []int{1, 2, 3})
}

func TestP3_3ManyLevels(t *testing.T) {
	const levels = 1000000
	s := New(doms([]int{1, 2, 3}))
	for range levels {
		s.Push()
	}
	checkLevel(t, s, levels)
	checkNarrow(t, s, 0, of(1, 2), api.Bound)
	s.Push()
	checkNarrow(t, s, 0, of(1), api.Fixed)
	checkBack(t, s, levels)
	checkDoms(t, "P3.3", s, []int{1, 2})
	checkBack(t, s, levels-1)
	checkDoms(t, "P3.3", s, []int{1, 2, 3})
	checkBack(t, s, 0)
	checkDoms(t, "P3.3", s, []int{1, 2, 3})
}

// Of nil: 0, nothing, Same, ErrNil (P1: nothing panics).
func TestP3_3Nil(t *testing.T) {
	var s *Store
	s.Push()
	checkLevel(t, s, 0)
	checkDoms(t, "P3.3", s)
	for _, i := range append(noPlaces(1), 0) {
		if d := s.Get(i); !d.Equal(dom.Dom{}) {
			t.Errorf("P3.3: of nil: Get(%d): %v", i, d.List())
		}
		if v, ok := s.Fixed(i); v != 0 || ok {
			t.Errorf("P3.3: of nil: Fixed(%d): %d, %v", i, v, ok)
		}
		checkNarrow(t, s, i, of(1), api.Same)
		if e := s.Back(i); e != api.ErrNil {
			t.Errorf("P3.3: of nil: Back(%d): %v", i, e)
		}
	}
	checkEvents(t, s)
}

// plain is a store that keeps all lists of each level.
type plain struct {
	levels [][][]int
	events []Event
}

func (p *plain) now() [][]int { return p.levels[len(p.levels)-1] }

func (p *plain) push() { p.levels = append(p.levels, slices.Clone(p.now())) }

func (p *plain) back(level int) {
	p.levels = p.levels[:level+1]
	p.events = nil
}

func (p *plain) narrow(i int, d dom.Dom) api.Change {
	was := p.now()[i]
	var left []int
	for _, v := range was {
		if d.Has(v) {
			left = append(left, v)
		}
	}
	p.now()[i] = left
	change := api.Shrunk
	switch {
	case len(left) == len(was):
		return api.Same
	case len(left) == 0:
		change = api.Empty
	case len(left) == 1:
		change = api.Fixed
	case left[0] != was[0] || left[len(left)-1] != was[len(was)-1]:
		change = api.Bound
	}
	p.events = append(p.events, Event{i, change})
	return change
}

// drawer of numbers that look like chance and are always the same.
func drawer(seed uint32) func(n int) int {
	return func(n int) int {
		seed = seed*1664525 + 1013904223
		return int(seed>>8) % n
	}
}

// checkFalls: no domain has a number that it hasn't at the level below.
func checkFalls(t *testing.T, s *Store, p *plain) {
	t.Helper()
	if len(p.levels) < 2 {
		return
	}
	for i, l := range p.levels[len(p.levels)-2] {
		if left, _ := s.Get(i).Minus(of(l...)); left.Size() != 0 {
			t.Errorf("P3.4: variable %d has %v more than a level below", i, left.List())
		}
	}
}

// Whatever is pushed, narrowed and gone back to, all is told as a store tells
// it that keeps everything.
func TestP3_4AsPlain(t *testing.T) {
	draw := drawer(3)
	for range 100 {
		p := &plain{levels: make([][][]int, 1)}
		for range 1 + draw(4) {
			low := draw(150) - 75
			d, _ := dom.Range(low, low+1+draw(80))
			p.levels[0] = append(p.levels[0], d.List())
		}
		s := New(doms(p.now()...))
		for range 200 {
			step(t, s, p, draw)
			checkDoms(t, "P3.4", s, p.now()...)
			checkLevel(t, s, len(p.levels)-1)
			checkFalls(t, s, p)
		}
	}
}

// step does the same, by draws, with both stores.
func step(t *testing.T, s *Store, p *plain, draw func(n int) int) {
	t.Helper()
	switch draw(10) {
	case 0, 1, 2:
		s.Push()
		p.push()
	case 3:
		level := draw(len(p.levels))
		checkBack(t, s, level)
		p.back(level)
	case 4:
		checkEvents(t, s, p.events...)
		p.events = nil
	default:
		i := draw(s.Len())
		d := some(s.Get(i), draw)
		checkNarrow(t, s, i, d, p.narrow(i, d))
	}
}

// some of a domain's numbers, perhaps all or none, and others.
func some(d dom.Dom, draw func(n int) int) dom.Dom {
	switch v := d.Min() + draw(max(1, d.Max()-d.Min()+1)); draw(12) {
	case 0:
		return of(v)
	case 1:
		return of(d.Max()+1, d.Max()+64)
	case 2, 3, 4:
		left, _ := dom.Range(v-10, d.Max()+5)
		return left
	case 5, 6, 7:
		left, _ := dom.Range(d.Min()-5, v+10)
		return left
	default:
		left, _ := d.Without(v)
		return left
	}
}

// A domain that is narrowed at each level is less than a level below, and after
// a Back it is as much as it was there, round after round.
func TestP3_4Falls(t *testing.T) {
	const levels = 60
	start, _ := dom.Range(0, levels)
	s := New([]dom.Dom{start})
	for round := range levels {
		for s.Level() < levels {
			s.Push()
			left, _ := dom.Range(0, levels-s.Level())
			if c := s.Narrow(0, left); c == api.Same || c == api.Empty {
				t.Fatalf("P3.4: round %d, level %d: change %d", round, s.Level(), c)
			}
			if size := s.Get(0).Size(); size != levels-s.Level()+1 {
				t.Fatalf("P3.4: round %d, level %d: %d numbers", round, s.Level(), size)
			}
		}
		checkBack(t, s, round)
		if size := s.Get(0).Size(); size != levels-round+1 {
			t.Fatalf("P3.4: back at level %d: %d numbers", round, size)
		}
	}
}

// No more is kept than a Back can ask for: nothing of the level 0, and at each
// other level one earlier domain of a variable, however often it is narrowed.
func TestP3_4KeepsNoMore(t *testing.T) {
	start, _ := dom.Range(0, 100)
	s := New([]dom.Dom{start})
	high := 100
	for level := range 3 {
		for range 20 {
			high--
			left, _ := dom.Range(0, high)
			checkNarrow(t, s, 0, left, api.Bound)
		}
		if len(s.before) != level {
			t.Errorf("P3.4: at level %d: %d earlier domains", level, len(s.before))
		}
		s.Push()
	}
	checkBack(t, s, 0)
	if len(s.before) != 0 {
		t.Errorf("P3.4: back at level 0: %d earlier domains", len(s.before))
	}
}

// Stores of one list have nothing to do with one another (P2).
func TestStoresApart(t *testing.T) {
	l := doms([]int{1, 2, 3}, []int{4, 5})
	a, b := New(l), New(l)
	a.Push()
	checkNarrow(t, a, 0, of(2), api.Fixed)
	checkDoms(t, "P2", b, []int{1, 2, 3}, []int{4, 5})
	checkLevel(t, b, 0)
	checkEvents(t, b)
	checkNarrow(t, b, 1, of(4), api.Fixed)
	checkBack(t, b, 0)
	checkDoms(t, "P2", a, []int{2}, []int{4, 5})
	checkLevel(t, a, 1)
	checkEvents(t, a, Event{0, api.Fixed})
}
