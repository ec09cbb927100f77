package model

import (
	"fmt"
	"math"
	"reflect"
	"slices"
	"strconv"
	"strings"
	"testing"

	"jigsaw/api"
)

// wholeModel with two variables or more for each constraint, and one of each kind.
func wholeModel() api.Model {
	m := api.Model{Goal: api.Maximize, Obj: 9}
	for i := range tenVars {
		m.Names = append(m.Names, "x"+strconv.Itoa(i))
		m.Doms = append(m.Doms, rising(i, i+1))
	}
	for _, x := range told {
		m.Cons = append(m.Cons, rightCon(x.kind))
	}
	return m
}

// noCons: a model of variables alone, as many as there are lists.
func noCons(doms ...[]int) api.Model {
	m := api.Model{Doms: doms}
	for i := range doms {
		m.Names = append(m.Names, "v"+strconv.Itoa(i))
	}
	return m
}

// named: a model of variables of these names.
func named(names ...string) api.Model {
	m := api.Model{Names: names}
	for range names {
		m.Doms = append(m.Doms, list(0, 1))
	}
	return m
}

// copyOfModel that shares nothing with it.
func copyOfModel(m api.Model) api.Model {
	m.Names, m.Doms, m.Cons = slices.Clone(m.Names), slices.Clone(m.Doms), slices.Clone(m.Cons)
	for i := range m.Doms {
		m.Doms[i] = slices.Clone(m.Doms[i])
	}
	for i := range m.Cons {
		m.Cons[i] = copyOf(m.Cons[i])
	}
	return m
}

// checkModel holds Check against what it should tell.
func checkModel(t *testing.T, what string, m api.Model, at int, want api.Errno) {
	t.Helper()
	before := copyOfModel(m)
	if n, e := Check(m); n != at || e != want {
		t.Errorf("P6.3: %s: %.200s: %d, %d; want %d, %d", what, fmt.Sprint(m), n, e, at, want)
	}
	if !reflect.DeepEqual(m, before) {
		t.Errorf("rule 4: %s: the model became %.200s", what, fmt.Sprint(m))
	}
}

func TestP6_3RightModels(t *testing.T) {
	checkModel(t, "none", api.Model{}, -1, api.OK)
	checkModel(t, "empty", api.Model{Names: []string{}, Doms: [][]int{}, Cons: []api.Con{}}, -1, api.OK)
	checkModel(t, "one variable", named("x"), -1, api.OK)
	checkModel(t, "whole", wholeModel(), -1, api.OK)
}

func TestP6_3NamesAndDoms(t *testing.T) {
	for names := range 4 {
		for doms := range 4 {
			m := wholeModel()
			m.Cons, m.Goal, m.Obj = nil, api.Satisfy, 0
			m.Names, m.Doms = m.Names[:names], m.Doms[:doms]
			want := api.OK
			if names != doms {
				want = api.ErrArg
			}
			checkModel(t, "names and doms", m, -1, want)
		}
	}
}

// many variables, and many constraints.
func many(vars, cons int) api.Model {
	m := noCons(make([][]int, vars)...)
	for i := range m.Doms {
		m.Doms[i] = list(i)
	}
	for range cons {
		m.Cons = append(m.Cons, api.Con{Kind: api.AllDiff, A: list(0)})
	}
	return m
}

func TestP6_3Many(t *testing.T) {
	for vars, wantVars := range map[int]api.Errno{1: 0, api.MaxVars - 1: 0, api.MaxVars: 0, api.MaxVars + 1: api.ErrMany, 2 * api.MaxVars: api.ErrMany} {
		for cons, wantCons := range map[int]api.Errno{0: 0, 1: 0, api.MaxCons - 1: 0, api.MaxCons: 0, api.MaxCons + 1: api.ErrMany, 2 * api.MaxCons: api.ErrMany} {
			checkModel(t, "many", many(vars, cons), -1, max(wantVars, wantCons))
		}
	}
}

func TestP6_3Names(t *testing.T) {
	for _, name := range []string{"x", "X", "vars", "Var", "VAR", "va", "var1", "var_", "constraints", "Constraint", "solves", "Solve", "satisfy", "minimize", "maximize", "lin_eq", "all_different", "x_9Z", strings.Repeat("n", api.MaxName)} {
		checkModel(t, "name", named("a", name), -1, api.OK)
	}
	for _, name := range []string{"", "var", "constraint", "solve", " ", "_", "_x", "1", "1x", "-1", "x y", " x", "x ", "var ", "x\n", "x-y", "x.y", "..", "x%", "%", ";", "é", "xé", "x\x00", "\xff", strings.Repeat("n", api.MaxName+1), strings.Repeat("n", api.MaxText+1)} {
		checkModel(t, "no name", named(name), -1, api.ErrName)
		checkModel(t, "no name", named("a", name, "b"), -1, api.ErrName)
	}
}

func TestP6_3Twice(t *testing.T) {
	checkModel(t, "twice", named("x", "x"), -1, api.ErrTwice)
	checkModel(t, "twice", named("x", "y", "z", "x"), -1, api.ErrTwice)
	checkModel(t, "twice", named("x", "y", "y", "z"), -1, api.ErrTwice)
	checkModel(t, "unlike", named("x", "X", "xx", "x_", "x1", "y"), -1, api.OK)
	m := many(api.MaxVars, 0)
	m.Names[api.MaxVars-1] = m.Names[0]
	checkModel(t, "twice, far apart", m, -1, api.ErrTwice)
}

func TestP6_3Doms(t *testing.T) {
	for _, l := range [][]int{{0}, {-1}, {1, 2}, {-5, 0, 7}, {api.MaxValue}, {-api.MaxValue}, {api.MaxValue - 1, api.MaxValue}, {0, api.MaxWidth - 1}, {-1, api.MaxWidth - 2}, rising(0, api.MaxWidth), rising(api.MaxValue-api.MaxWidth+1, api.MaxWidth), rising(-api.MaxValue, api.MaxWidth)} {
		checkModel(t, "dom", noCons(list(1), l), -1, api.OK)
	}
	for _, l := range [][]int{nil, {}, {1, 1}, {2, 1}, {1, 2, 2}, {1, 3, 2}, {1, 1, 2}, {2, 1, 3}, {api.MaxValue + 1}, {-api.MaxValue - 1}, {api.MaxValue, api.MaxValue + 1}, {-api.MaxValue - 1, -api.MaxValue}, {0, api.MaxWidth}, {-1, api.MaxWidth - 1}, {-api.MaxValue, api.MaxValue}, rising(0, api.MaxWidth+1), {math.MinInt}, {math.MaxInt}, {math.MinInt, math.MaxInt}, {math.MaxInt, math.MinInt}, {math.MinInt, 0, math.MaxInt}} {
		checkModel(t, "no dom", noCons(l), -1, api.ErrRange)
		checkModel(t, "no dom", noCons(list(1), l, list(2)), -1, api.ErrRange)
	}
	long := rising(0, api.MaxWidth)
	long[api.MaxWidth-1] = long[api.MaxWidth-2]
	checkModel(t, "twice at the end", noCons(long), -1, api.ErrRange)
}

func TestP6_3Constraints(t *testing.T) {
	wrong := map[api.Errno]api.Con{
		api.ErrKind:  {},
		api.ErrArity: {Kind: api.AllDiff},
		api.ErrName:  {Kind: api.AllDiff, A: list(tenVars)},
		api.ErrCoef:  {Kind: api.LinEq, A: list(0), C: list(api.MaxCoef + 1)},
	}
	for want, c := range wrong {
		for at := range told {
			m := wholeModel()
			m.Cons[at] = c
			checkModel(t, "constraint", m, at, want)
			for _, other := range wrong {
				m.Cons = append(m.Cons, other)
			}
			checkModel(t, "first constraint", m, at, want)
			m.Goal = 7
			checkModel(t, "constraint and goal", m, at, want)
		}
	}
	m := many(2, api.MaxCons)
	m.Cons[api.MaxCons-1] = api.Con{Kind: api.AllDiff, A: list(2)}
	checkModel(t, "last constraint", m, api.MaxCons-1, api.ErrName)
	checkModel(t, "no variables", api.Model{Cons: []api.Con{{Kind: api.AllDiff, A: list(0)}}}, 0, api.ErrName)
}

func TestP6_3Goals(t *testing.T) {
	places := []int{math.MinInt, -1, 0, 1, 2, 3, 4, 1 << 32, math.MaxInt}
	for _, names := range [][]string{nil, {"a"}, {"a", "b", "c"}} {
		for _, goal := range []int{math.MinInt, -1, api.Satisfy, api.Minimize, api.Maximize, 3, 1<<32 + 1, math.MaxInt} {
			for _, obj := range places {
				m := named(names...)
				m.Goal, m.Obj = goal, obj
				want := api.ErrGoal
				if goal == api.Satisfy && obj == 0 {
					want = api.OK
				}
				if (goal == api.Minimize || goal == api.Maximize) && slices.Contains(rising(0, len(names)), obj) {
					want = api.OK
				}
				checkModel(t, "goal", m, -1, want)
			}
		}
	}
}

func TestP6_3OrderOfErrors(t *testing.T) {
	m := many(api.MaxVars+1, api.MaxCons+1)
	m.Names[0], m.Names[2], m.Doms[0] = "var", m.Names[1], nil
	m.Cons[0], m.Goal = api.Con{}, 9
	m.Names = append(m.Names, "more")
	checkModel(t, "ErrArg first", m, -1, api.ErrArg)
	m.Names = m.Names[:api.MaxVars+1]
	checkModel(t, "then ErrMany", m, -1, api.ErrMany)
	m.Names, m.Doms = m.Names[:9], m.Doms[:9]
	checkModel(t, "then ErrMany", m, -1, api.ErrMany)
	m.Cons = m.Cons[:9]
	checkModel(t, "then ErrName", m, -1, api.ErrName)
	m.Names[0] = "fine"
	checkModel(t, "the first variable's ErrRange ahead of the third one's ErrTwice", m, -1, api.ErrRange)
	m.Doms[0], m.Doms[2], m.Names[3] = list(1), nil, ""
	checkModel(t, "ErrTwice ahead of ErrRange, and of the next one's ErrName", m, -1, api.ErrTwice)
	m.Names[2] = "fine_too"
	checkModel(t, "ErrRange ahead of the next one's ErrName", m, -1, api.ErrRange)
	m.Doms[2] = list(1)
	checkModel(t, "the next one's ErrName", m, -1, api.ErrName)
	m.Names[3] = "all_fine"
	checkModel(t, "then the constraint's", m, 0, api.ErrKind)
	m.Cons[0] = m.Cons[1]
	checkModel(t, "then ErrGoal", m, -1, api.ErrGoal)
	m.Goal = api.Satisfy
	checkModel(t, "then none", m, -1, api.OK)
}

// What lies behind a list's length is wrong here, and must not be read.
func TestP6_3BehindTheLength(t *testing.T) {
	m := wholeModel()
	m.Names = append(m.Names, "", "x0")[:tenVars]
	m.Doms = append(m.Doms, nil, list(3, 1))[:tenVars]
	m.Doms[0] = append(m.Doms[0], -5, 9999999)[:1]
	m.Cons = append(m.Cons, api.Con{})[:len(told)]
	if n, e := Check(m); n != -1 || e != api.OK {
		t.Errorf("rule 4: %d, %d", n, e)
	}
	if !Equal(m, wholeModel()) || !Equal(wholeModel(), m) {
		t.Errorf("rule 4: not equal")
	}
}

// checkEqual: are two the same, each held against the other?
func checkEqual(t *testing.T, what string, a, b api.Model, want bool) {
	t.Helper()
	if Equal(a, b) != want || Equal(b, a) != want {
		t.Errorf("P6.3: %s: %v, %v; want %v", what, Equal(a, b), Equal(b, a), want)
	}
}

func TestP6_3Equal(t *testing.T) {
	m := wholeModel()
	checkEqual(t, "itself", m, m, true)
	checkEqual(t, "its like", m, wholeModel(), true)
	checkEqual(t, "none", api.Model{}, api.Model{}, true)
	checkEqual(t, "empty", api.Model{}, api.Model{Names: []string{}, Doms: [][]int{}, Cons: []api.Con{}}, true)
	nils := api.Model{Doms: [][]int{nil}, Cons: []api.Con{{Rows: [][]int{nil}}}}
	empties := api.Model{Doms: [][]int{{}}, Cons: []api.Con{{A: list(), B: list(), C: list(), D: list(), E: list(), Rows: [][]int{{}}}}}
	checkEqual(t, "empty lists", nils, empties, true)
	checkEqual(t, "none", m, api.Model{}, false)
	if !reflect.DeepEqual(m, wholeModel()) {
		t.Errorf("rule 4: the model became %v", m)
	}
}

// changed: ways to make of a list another one.
func changed(l []int) [][]int {
	more := append(slices.Clone(l), 0)
	all := [][]int{more, append(list(math.MinInt), l...)}
	for i := range l {
		other := slices.Clone(l)
		other[i]++
		all = append(all, other, slices.Delete(slices.Clone(l), i, i+1))
	}
	return all
}

// swapped: is the list with the first two the other way round another one?
func swapped(l []int) bool {
	if len(l) < 2 || l[0] == l[1] {
		return false
	}
	l[0], l[1] = l[1], l[0]
	return true
}

func TestP6_3UnlikeModels(t *testing.T) {
	whole := wholeModel()
	unlike := func(what string, change func(m *api.Model)) {
		t.Helper()
		m := wholeModel()
		change(&m)
		checkEqual(t, what, whole, m, false)
		checkEqual(t, what, m, m, true)
	}
	unlike("Goal", func(m *api.Model) { m.Goal = api.Minimize })
	unlike("Goal that is none", func(m *api.Model) { m.Goal = math.MaxInt })
	unlike("Obj", func(m *api.Model) { m.Obj = 8 })
	for i := range tenVars {
		unlike("name", func(m *api.Model) { m.Names[i] += "_" })
		unlike("capital", func(m *api.Model) { m.Names[i] = strings.ToUpper(m.Names[i]) })
		for _, l := range changed(whole.Doms[i]) {
			unlike("dom", func(m *api.Model) { m.Doms[i] = l })
		}
	}
	unlike("names in another order", func(m *api.Model) { m.Names[0], m.Names[1] = m.Names[1], m.Names[0] })
	unlike("doms in another order", func(m *api.Model) { m.Doms[0], m.Doms[1] = m.Doms[1], m.Doms[0] })
	unlike("constraints in another order", func(m *api.Model) { m.Cons[0], m.Cons[1] = m.Cons[1], m.Cons[0] })
	unlike("a name less", func(m *api.Model) { m.Names = m.Names[:9] })
	unlike("a dom less", func(m *api.Model) { m.Doms = m.Doms[:9] })
	unlike("a constraint less", func(m *api.Model) { m.Cons = m.Cons[:len(told)-1] })
	unlike("a constraint more", func(m *api.Model) { m.Cons = append(m.Cons, api.Con{}) })
}

func TestP6_3UnlikeConstraints(t *testing.T) {
	for at := range told {
		unlike := func(what string, change func(c *api.Con)) {
			t.Helper()
			m := wholeModel()
			change(&m.Cons[at])
			checkEqual(t, told[at].word+", "+what, wholeModel(), m, false)
		}
		unlike("kind", func(c *api.Con) { c.Kind++ })
		unlike("K", func(c *api.Con) { c.K++ })
		c := rightCon(told[at].kind)
		for name, part := range parts(&c) {
			for _, l := range changed(*part) {
				unlike(name, func(c *api.Con) { *parts(c)[name] = l })
			}
			if swapped(*part) {
				unlike(name+" in another order", func(c *api.Con) { swapped(*parts(c)[name]) })
			}
		}
		for i := range c.Rows {
			for _, row := range changed(c.Rows[i]) {
				unlike("row", func(c *api.Con) { c.Rows[i] = row })
			}
		}
		unlike("a row more", func(c *api.Con) { c.Rows = append(c.Rows, nil) })
	}
	tables := func(rows ...[]int) api.Model {
		return api.Model{Cons: []api.Con{{Kind: api.Table, A: list(0), Rows: rows}}}
	}
	checkEqual(t, "rows in another order", tables(list(1), list(2)), tables(list(2), list(1)), false)
	checkEqual(t, "rows cut elsewhere", tables(list(1), list(2, 3)), tables(list(1, 2), list(3)), false)
}
