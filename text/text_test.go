package text

import (
	"fmt"
	"math"
	"reflect"
	"slices"
	"strconv"
	"strings"
	"testing"

	"jigsaw/api"
	"jigsaw/model"
)

func ints(v ...int) []int { return v }

// rising numbers, so many from one on.
func rising(low, n int) []int {
	l := make([]int, n)
	for i := range l {
		l[i] = low + i
	}
	return l
}

// without a place.
func without(l []int, at int) []int { return slices.Delete(slices.Clone(l), at, at+1) }

// copyOf a constraint, that shares nothing with it.
func copyOf(c api.Con) api.Con {
	c.A, c.B = slices.Clone(c.A), slices.Clone(c.B)
	c.C, c.D, c.E = slices.Clone(c.C), slices.Clone(c.D), slices.Clone(c.E)
	c.Rows = slices.Clone(c.Rows)
	for i := range c.Rows {
		c.Rows[i] = slices.Clone(c.Rows[i])
	}
	return c
}

// copyOfModel that shares nothing with it.
func copyOfModel(m api.Model) api.Model {
	m.Names, m.Doms, m.Cons = slices.Clone(m.Names), slices.Clone(m.Doms), slices.Clone(m.Cons)
	for i := range m.Doms {
		m.Doms[i] = slices.Clone(m.Doms[i])
	}
	for i := range m.Cons {
		m.Cons[i] = copyOf(m.Cons[i])
	}
	return m
}

// checkLine holds Line against what it should tell; and what it is handed
// against what that was.
func checkLine(t *testing.T, c api.Con, names []string, want string, errno api.Errno) {
	t.Helper()
	c2, names2 := copyOf(c), slices.Clone(names)
	if s, e := Line(c, names); s != want || e != errno {
		t.Errorf("P8.1: Line(%.200s, %.100q): %.300q, %d; want %.300q, %d", fmt.Sprint(c), names, s, e, want, errno)
	}
	if !reflect.DeepEqual(c, c2) || !slices.Equal(names, names2) {
		t.Errorf("rule 4: %.200s, %.100q became %.200s, %.100q", fmt.Sprint(c2), names2, fmt.Sprint(c), names)
	}
}

// checkPrint holds Print against what it should tell, in the same way.
func checkPrint(t *testing.T, m api.Model, want string, errno api.Errno) {
	t.Helper()
	m2 := copyOfModel(m)
	if s, e := Print(m); s != want || e != errno {
		t.Errorf("P8.1: Print(%.200s): %.300q, %d; want %.300q, %d", fmt.Sprint(m), s, e, want, errno)
	}
	if !reflect.DeepEqual(m, m2) {
		t.Errorf("rule 4: %.200s became %.200s", fmt.Sprint(m2), fmt.Sprint(m))
	}
}

// xyz: the names that the tables' lines have.
var xyz = []string{"x", "y", "z", "b"}

// lines of constraints, some of each kind.
var lines = []struct {
	line string
	c    api.Con
}{
	{"lin_eq([3,-4],[x,y],5)", api.Con{Kind: api.LinEq, C: ints(3, -4), A: ints(0, 1), K: 5}},
	{"lin_eq([0],[z],0)", api.Con{Kind: api.LinEq, C: ints(0), A: ints(2)}},
	{"lin_le([1,-2],[x,y],7)", api.Con{Kind: api.LinLe, C: ints(1, -2), A: ints(0, 1), K: 7}},
	{"lin_le([1,1,1],[x,x,x],-9999999999)", api.Con{Kind: api.LinLe, C: ints(1, 1, 1), A: ints(0, 0, 0), K: -9999999999}},
	{"lin_ne([1000000,-1000000],[y,x],9999999999)", api.Con{Kind: api.LinNe, C: ints(1000000, -1000000), A: ints(1, 0), K: 9999999999}},
	{"lin_reif([1,-2],[x,y],-7,b)", api.Con{Kind: api.LinReif, C: ints(1, -2), A: ints(0, 1), K: -7, B: ints(3)}},
	{"times(x,y,z)", api.Con{Kind: api.Times, A: ints(0, 1, 2)}},
	{"times(z,z,z)", api.Con{Kind: api.Times, A: ints(2, 2, 2)}},
	{"div(y,z,x)", api.Con{Kind: api.Div, A: ints(1, 2, 0)}},
	{"mod(x,z,y)", api.Con{Kind: api.Mod, A: ints(0, 2, 1)}},
	{"abs(y,x)", api.Con{Kind: api.Abs, A: ints(1, 0)}},
	{"min(z,y,x)", api.Con{Kind: api.Min, A: ints(2, 1, 0)}},
	{"max(x,y,x)", api.Con{Kind: api.Max, A: ints(0, 1, 0)}},
	{"element(x,[4,-5,4],y)", api.Con{Kind: api.Element, A: ints(0, 1), C: ints(4, -5, 4)}},
	{"element(y,[0],y)", api.Con{Kind: api.Element, A: ints(1, 1), C: ints(0)}},
	{"clause([x,y],[z])", api.Con{Kind: api.Clause, A: ints(0, 1), B: ints(2)}},
	{"clause([],[b,x])", api.Con{Kind: api.Clause, B: ints(3, 0)}},
	{"clause([b],[])", api.Con{Kind: api.Clause, A: ints(3)}},
	{"eq_reif(x,3,b)", api.Con{Kind: api.EqReif, A: ints(0), K: 3, B: ints(3)}},
	{"le_reif(b,0,x)", api.Con{Kind: api.LeReif, A: ints(3), B: ints(0)}},
	{"eq_imp(y,-1,b)", api.Con{Kind: api.EqImp, A: ints(1), K: -1, B: ints(3)}},
	{"le_imp(z,10,z)", api.Con{Kind: api.LeImp, A: ints(2), K: 10, B: ints(2)}},
	{"all_different([z,x,y])", api.Con{Kind: api.AllDiff, A: ints(2, 0, 1)}},
	{"all_different([b])", api.Con{Kind: api.AllDiff, A: ints(3)}},
	{"table([x,y],[[1,-2],[3,5],[1,-2]])", api.Con{Kind: api.Table, A: ints(0, 1), Rows: [][]int{{1, -2}, {3, 5}, {1, -2}}}},
	{"table([y],[[0]])", api.Con{Kind: api.Table, A: ints(1), Rows: [][]int{{0}}}},
	{"cumulative([x,y],[1,2],[3,4],5)", api.Con{Kind: api.Cumulative, A: ints(0, 1), C: ints(1, 2), D: ints(3, 4), K: 5}},
	{"cumulative([x],[0],[0],0)", api.Con{Kind: api.Cumulative, A: ints(0), C: ints(0), D: ints(0)}},
	{"circuit([y,x])", api.Con{Kind: api.Circuit, A: ints(1, 0)}},
	{"gcc([x,z],[-1,2,0],[0,1,2],[2,3,4])", api.Con{Kind: api.Gcc, A: ints(0, 2), C: ints(-1, 2, 0), D: ints(0, 1, 2), E: ints(2, 3, 4)}},
	{"lex_le([x,y],[z,b])", api.Con{Kind: api.LexLe, A: ints(0, 1), B: ints(2, 3)}},
	{"inverse([x],[y])", api.Con{Kind: api.Inverse, A: ints(0), B: ints(1)}},
	{"inverse([x,y,z],[z,y,x])", api.Con{Kind: api.Inverse, A: ints(0, 1, 2), B: ints(2, 1, 0)}},
}

// whole: a model that has all these lines, and its text.
func whole() (api.Model, string) {
	m := api.Model{Names: xyz, Doms: [][]int{{-3, -2, -1}, {2, 5}, {7}, {0, 1}}, Goal: api.Maximize, Obj: 1}
	text := "var -3..-1: x;\nvar {2,5}: y;\nvar 7..7: z;\nvar 0..1: b;\n"
	for _, x := range lines {
		m.Cons = append(m.Cons, x.c)
		text += "constraint " + x.line + ";\n"
	}
	return copyOfModel(m), text + "solve maximize y;\n"
}

func TestP8_1Example(t *testing.T) {
	c := api.Con{Kind: api.LinLe, A: ints(0, 1), C: ints(1, -2), K: 7}
	checkLine(t, c, []string{"x", "y"}, "constraint lin_le([1,-2],[x,y],7);", api.OK)
}

func TestP8_1LinesOfAllKinds(t *testing.T) {
	met := map[int]bool{}
	for _, x := range lines {
		checkLine(t, x.c, xyz, "constraint "+x.line+";", api.OK)
		met[x.c.Kind] = true
	}
	if len(met) != 23 {
		t.Errorf("P8.1: there are lines of %d kinds", len(met))
	}
}

// emptied: all lists that are nil are empty ones.
func emptied(c api.Con) api.Con {
	for _, l := range []*[]int{&c.A, &c.B, &c.C, &c.D, &c.E} {
		if *l == nil {
			*l = []int{}
		}
	}
	if c.Rows == nil {
		c.Rows = [][]int{}
	}
	return c
}

func TestP8_1EmptyLists(t *testing.T) {
	for _, x := range lines {
		checkLine(t, emptied(x.c), xyz, "constraint "+x.line+";", api.OK)
	}
	checkPrint(t, api.Model{Names: []string{}, Doms: [][]int{}, Cons: []api.Con{}}, "solve satisfy;\n", api.OK)
}

func TestP8_1LineOfAnyNames(t *testing.T) {
	c := api.Con{Kind: api.AllDiff, A: ints(0, 1)}
	for _, name := range []string{"", " ", "var", "constraint", "a,b", "];", "1", "-1", "_", "x y", "x\n", "\x00", "\xff\xfe", "é", "%d%s", "\"", strings.Repeat("n", api.MaxName+1), strings.Repeat("é", api.MaxText)} {
		checkLine(t, c, []string{name, "y"}, "constraint all_different(["+name+",y]);", api.OK)
		checkLine(t, c, []string{"x", name}, "constraint all_different([x,"+name+"]);", api.OK)
		checkLine(t, c, []string{name, name}, "constraint all_different(["+name+","+name+"]);", api.OK)
		checkLine(t, api.Con{Kind: api.EqReif, A: ints(0), K: 1, B: ints(1)}, []string{name, "b"}, "constraint eq_reif("+name+",1,b);", api.OK)
		checkLine(t, api.Con{Kind: api.EqReif, A: ints(0), K: 1, B: ints(1)}, []string{"x", name}, "constraint eq_reif(x,1,"+name+");", api.OK)
	}
}

// More names than a model may have are no error of Right.
func TestP8_1LineOfManyNames(t *testing.T) {
	names := make([]string, 100000)
	for i := range names {
		names[i] = "v" + strconv.Itoa(i)
	}
	checkLine(t, api.Con{Kind: api.Abs, A: ints(99999, 70000)}, names, "constraint abs(v99999,v70000);", api.OK)
	checkLine(t, api.Con{Kind: api.Abs, A: ints(100000, 70000)}, names, "", api.ErrName)
}

func TestP8_1LongLines(t *testing.T) {
	n := api.MaxTerms
	ones := make([]int, n)
	var names []string
	for i := range n {
		ones[i] = 1
		names = append(names, "v"+strconv.Itoa(i))
	}
	of := func(l []int) string { return strings.ReplaceAll(fmt.Sprint(l), " ", ",") }
	vars := "[" + strings.Join(names, ",") + "]"
	var rows [][]int
	for i := range api.MaxRows {
		rows = append(rows, rising(-i, n))
	}
	ofRows := strings.ReplaceAll(fmt.Sprint(rows), " ", ",")
	all := rising(0, n)
	for want, c := range map[string]api.Con{
		"lin_eq(" + of(ones) + "," + vars + ",1)":                             {Kind: api.LinEq, A: all, C: ones, K: 1},
		"clause(" + vars + "," + vars + ")":                                   {Kind: api.Clause, A: all, B: all},
		"element(v0," + of(all) + ",v63)":                                     {Kind: api.Element, A: ints(0, n-1), C: all},
		"table(" + vars + "," + ofRows + ")":                                  {Kind: api.Table, A: all, Rows: rows},
		"gcc(" + vars + "," + of(all) + "," + of(ones) + "," + of(ones) + ")": {Kind: api.Gcc, A: all, C: all, D: ones, E: ones},
	} {
		checkLine(t, c, names, "constraint "+want+";", api.OK)
	}
	rows = append(rows, rising(0, n))
	checkLine(t, api.Con{Kind: api.Table, A: all, Rows: rows}, names, "", api.ErrArity)
	checkLine(t, api.Con{Kind: api.AllDiff, A: append(all, 0)}, names, "", api.ErrArity)
}

func TestP8_1WrongLines(t *testing.T) {
	for _, x := range []struct {
		c    api.Con
		want api.Errno
	}{
		{api.Con{}, api.ErrKind},
		{api.Con{Kind: -1}, api.ErrKind},
		{api.Con{Kind: 24}, api.ErrKind},
		{api.Con{Kind: math.MinInt}, api.ErrKind},
		{api.Con{Kind: math.MaxInt}, api.ErrKind},
		{api.Con{Kind: 24, A: ints(9), K: math.MinInt}, api.ErrKind},
		{api.Con{Kind: api.AllDiff}, api.ErrArity},
		{api.Con{Kind: api.Clause}, api.ErrArity},
		{api.Con{Kind: api.AllDiff, A: ints(0), K: 1}, api.ErrArity},
		{api.Con{Kind: api.Abs, A: ints(0)}, api.ErrArity},
		{api.Con{Kind: api.Abs, A: ints(0, 9, 9)}, api.ErrArity},
		{api.Con{Kind: api.Times, A: ints(0, 0)}, api.ErrArity},
		{api.Con{Kind: api.LinEq, A: ints(9, 9), C: ints(math.MaxInt)}, api.ErrArity},
		{api.Con{Kind: api.EqReif, A: ints(0)}, api.ErrArity},
		{api.Con{Kind: api.EqReif, A: ints(0), B: ints(0, 0)}, api.ErrArity},
		{api.Con{Kind: api.Table, A: ints(0), Rows: [][]int{{1}, {}}}, api.ErrArity},
		{api.Con{Kind: api.AllDiff, A: ints(4)}, api.ErrName},
		{api.Con{Kind: api.AllDiff, A: ints(0, -1)}, api.ErrName},
		{api.Con{Kind: api.AllDiff, A: ints(math.MinInt)}, api.ErrName},
		{api.Con{Kind: api.AllDiff, A: ints(math.MaxInt)}, api.ErrName},
		{api.Con{Kind: api.Clause, B: ints(0, 4)}, api.ErrName},
		{api.Con{Kind: api.LinEq, A: ints(4), C: ints(math.MaxInt)}, api.ErrName},
		{api.Con{Kind: api.LinEq, A: ints(0), C: ints(1000001)}, api.ErrCoef},
		{api.Con{Kind: api.LinEq, A: ints(0), C: ints(math.MinInt)}, api.ErrCoef},
		{api.Con{Kind: api.LinEq, A: ints(0), C: ints(1), K: 10000000000}, api.ErrCoef},
		{api.Con{Kind: api.LinEq, A: ints(0), C: ints(1), K: math.MinInt}, api.ErrCoef},
		{api.Con{Kind: api.Table, A: ints(0), Rows: [][]int{{1}, {-1000001}}}, api.ErrCoef},
		{api.Con{Kind: api.Gcc, A: ints(0), C: ints(1, 1), D: ints(0, 0), E: ints(1, 1)}, api.ErrCoef},
		{api.Con{Kind: api.Cumulative, A: ints(0), C: ints(-1), D: ints(0)}, api.ErrCoef},
	} {
		checkLine(t, x.c, xyz, "", x.want)
		m, _ := whole()
		m.Cons = append(m.Cons, x.c)
		checkPrint(t, m, "", x.want)
		m.Goal, m.Cons[0] = 9, x.c
		checkPrint(t, m, "", x.want)
	}
}

func TestP8_1LineWithoutNames(t *testing.T) {
	for _, names := range [][]string{nil, {}} {
		for _, x := range lines {
			checkLine(t, x.c, names, "", api.ErrName)
		}
		checkLine(t, api.Con{}, names, "", api.ErrKind)
		checkLine(t, api.Con{Kind: api.Clause}, names, "", api.ErrArity)
	}
	for _, x := range lines { // a name less than the greatest place wants
		n := slices.Max(model.Vars(x.c))
		checkLine(t, x.c, xyz[:n], "", api.ErrName)
		checkLine(t, x.c, xyz[:n+1], "constraint "+x.line+";", api.OK)
	}
}

func TestP8_1Whole(t *testing.T) {
	m, text := whole()
	checkPrint(t, m, text, api.OK)
	checkPrint(t, api.Model{}, "solve satisfy;\n", api.OK)
	m.Cons = nil
	checkPrint(t, m, "var -3..-1: x;\nvar {2,5}: y;\nvar 7..7: z;\nvar 0..1: b;\nsolve maximize y;\n", api.OK)
}

func TestP8_1Goals(t *testing.T) {
	m := api.Model{Names: []string{"x", "satisfy", "y_1"}, Doms: [][]int{{1}, {1}, {1}}}
	vars := "var 1..1: x;\nvar 1..1: satisfy;\nvar 1..1: y_1;\n"
	checkPrint(t, m, vars+"solve satisfy;\n", api.OK)
	for place, name := range m.Names {
		m.Goal, m.Obj = api.Minimize, place
		checkPrint(t, m, vars+"solve minimize "+name+";\n", api.OK)
		m.Goal = api.Maximize
		checkPrint(t, m, vars+"solve maximize "+name+";\n", api.OK)
	}
	for _, goal := range []int{-1, 3, 5, math.MinInt, math.MaxInt} {
		m.Goal, m.Obj = goal, 0
		checkPrint(t, m, "", api.ErrGoal)
	}
	for _, x := range [][]int{{api.Satisfy, 1}, {api.Satisfy, -1}, {api.Minimize, 3}, {api.Maximize, 3}, {api.Minimize, -1}, {api.Maximize, math.MaxInt}, {api.Minimize, math.MinInt}} {
		m.Goal, m.Obj = x[0], x[1]
		checkPrint(t, m, "", api.ErrGoal)
	}
	checkPrint(t, api.Model{Goal: api.Minimize}, "", api.ErrGoal)
}

func TestP8_1Domains(t *testing.T) {
	for _, x := range []struct {
		values []int
		want   string
	}{
		{ints(7), "7..7"},
		{ints(0), "0..0"},
		{ints(-7), "-7..-7"},
		{ints(1, 2), "1..2"},
		{ints(-1, 0), "-1..0"},
		{ints(-3, -2, -1), "-3..-1"},
		{rising(-2, 5), "-2..2"},
		{ints(1, 3), "{1,3}"},
		{ints(2, 5), "{2,5}"},
		{ints(-5, -2), "{-5,-2}"},
		{ints(-1, 1), "{-1,1}"},
		{ints(1, 2, 4), "{1,2,4}"},
		{ints(1, 3, 4), "{1,3,4}"},
		{ints(1, 3, 5), "{1,3,5}"},
		{ints(1, 2, 3, 5), "{1,2,3,5}"},
		{ints(-10, -9, 0, 9, 10), "{-10,-9,0,9,10}"},
		{ints(api.MaxValue), "1000000..1000000"},
		{ints(-api.MaxValue), "-1000000..-1000000"},
		{ints(api.MaxValue-1, api.MaxValue), "999999..1000000"},
		{ints(0, api.MaxWidth-1), "{0,65535}"},
		{rising(0, api.MaxWidth), "0..65535"},
		{rising(-32768, api.MaxWidth), "-32768..32767"},
		{rising(-api.MaxValue, api.MaxWidth), "-1000000..-934465"},
		{rising(api.MaxValue-api.MaxWidth+1, api.MaxWidth), "934465..1000000"},
	} {
		checkPrint(t, api.Model{Names: []string{"x"}, Doms: [][]int{x.values}}, "var "+x.want+": x;\nsolve satisfy;\n", api.OK)
	}
	for _, at := range []int{1, 2, 63, 64, 65, 32768, api.MaxWidth - 2} {
		values := without(rising(-7, api.MaxWidth), at)
		want := strings.ReplaceAll(strings.Trim(fmt.Sprint(values), "[]"), " ", ",")
		checkPrint(t, api.Model{Names: []string{"x"}, Doms: [][]int{values}}, "var {"+want+"}: x;\nsolve satisfy;\n", api.OK)
	}
	for _, values := range [][]int{nil, {}, {1, 1}, {2, 1}, {1, 3, 2}, {1, 1, 3}, {1000001}, {-1000001}, {0, 65536}, {math.MinInt, math.MaxInt}, {math.MaxInt, math.MinInt}, rising(0, api.MaxWidth+1)} {
		checkPrint(t, api.Model{Names: []string{"x"}, Doms: [][]int{values}}, "", api.ErrRange)
	}
}

func TestP8_1WrongModels(t *testing.T) {
	wrong := func(want api.Errno, change func(m *api.Model)) {
		t.Helper()
		m, _ := whole()
		change(&m)
		checkPrint(t, m, "", want)
	}
	wrong(api.ErrArg, func(m *api.Model) { m.Names = m.Names[:3] })
	wrong(api.ErrArg, func(m *api.Model) { m.Doms = m.Doms[:3] })
	wrong(api.ErrArg, func(m *api.Model) { m.Doms = nil })
	wrong(api.ErrArg, func(m *api.Model) { m.Names = nil })
	wrong(api.ErrArg, func(m *api.Model) { m.Doms, m.Names[0] = append(m.Doms, nil), "" })
	wrong(api.ErrMany, func(m *api.Model) {
		for len(m.Names) <= api.MaxVars {
			m.Names, m.Doms = append(m.Names, ""), append(m.Doms, nil)
		}
	})
	wrong(api.ErrMany, func(m *api.Model) { m.Cons = make([]api.Con, api.MaxCons+1) })
	for _, name := range []string{"", "var", "constraint", "solve", " ", "_", "1", "x y", "x\n", "é", "\xff", strings.Repeat("n", api.MaxName+1)} {
		wrong(api.ErrName, func(m *api.Model) { m.Names[2], m.Doms[2] = name, nil })
	}
	wrong(api.ErrTwice, func(m *api.Model) { m.Names[3], m.Doms[3] = "x", nil })
	wrong(api.ErrRange, func(m *api.Model) { m.Doms[3], m.Cons[0] = nil, api.Con{} })
	wrong(api.ErrKind, func(m *api.Model) { m.Cons[0], m.Goal = api.Con{}, 7 })
	wrong(api.ErrName, func(m *api.Model) { m.Names, m.Doms, m.Goal = m.Names[:2], m.Doms[:2], 7 })
	wrong(api.ErrGoal, func(m *api.Model) { m.Goal = 7 })
	wrong(api.ErrGoal, func(m *api.Model) { m.Obj = 4 })
}

// What lies behind a list's length is neither read nor written.
func TestP8_1BehindTheLength(t *testing.T) {
	m, text := whole()
	m.Names = append(m.Names, "", "x")[:4]
	m.Doms = append(m.Doms, nil, ints(3, 1))[:4]
	m.Cons = append(m.Cons, api.Con{})[:len(lines)]
	for i := range m.Doms {
		m.Doms[i] = append(m.Doms[i], -9, 99)[:len(m.Doms[i])]
	}
	for i := range m.Cons {
		c := &m.Cons[i]
		for _, l := range []*[]int{&c.A, &c.B, &c.C, &c.D, &c.E} {
			*l = append(*l, -9, math.MaxInt)[:len(*l)]
		}
		for j := range c.Rows {
			c.Rows[j] = append(c.Rows[j], -9)[:len(c.Rows[j])]
		}
		c.Rows = append(c.Rows, nil, ints(7))[:len(c.Rows)]
	}
	checkPrint(t, m, text, api.OK)
	for i, x := range lines {
		checkLine(t, m.Cons[i], m.Names, "constraint "+x.line+";", api.OK)
	}
	if behind := m.Doms[0][:5]; !slices.Equal(behind, ints(-3, -2, -1, -9, 99)) {
		t.Errorf("rule 4: what lies behind is %v", behind)
	}
	checkLine(t, api.Con{Kind: api.AllDiff, A: ints(4)}, m.Names, "", api.ErrName)
}

// A call hangs on nothing that was asked ahead of it.
func TestP8_1AgainTheSame(t *testing.T) {
	m, text := whole()
	for range 3 {
		checkPrint(t, m, text, api.OK)
		checkPrint(t, api.Model{Goal: 5}, "", api.ErrGoal)
		for _, x := range lines {
			checkLine(t, x.c, xyz, "constraint "+x.line+";", api.OK)
		}
	}
}
