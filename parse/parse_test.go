package parse

import (
	"reflect"
	"slices"
	"strconv"
	"strings"
	"testing"

	"jigsaw/api"
	"jigsaw/model"
)

func list(v ...int) []int { return v }

// rising numbers from low to high.
func rising(low, high int) []int {
	var l []int
	for v := low; v <= high; v++ {
		l = append(l, v)
	}
	return l
}

// checkModel: a text is a model's, which may be.
func checkModel(t *testing.T, text string, want api.Model) {
	t.Helper()
	m, at, e := Parse(text)
	if at != 0 || e != api.OK || !model.Equal(m, want) {
		t.Errorf("P7.1: %.300q: %.300v, %d, %d; want %.300v", text, m, at, e, want)
	}
	if _, e := model.Check(m); e != api.OK {
		t.Errorf("P7.2: %.300q: the model may not be: %d", text, e)
	}
}

// checkWrong: a text, in which ^ marks the place, is wrong there.
func checkWrong(t *testing.T, marked string, want api.Errno) {
	t.Helper()
	place := strings.Index(marked, "^")
	if place < 0 {
		t.Fatalf("no place is marked in %q", marked)
	}
	checkFault(t, marked[:place]+marked[place+1:], place, want)
}

// checkFault: a text is wrong at a place, and nothing else is told of it.
func checkFault(t *testing.T, text string, place int, want api.Errno) {
	t.Helper()
	m, at, e := Parse(text)
	if at != place || e != want {
		t.Errorf("P7.1: %.300q: %d, %d; want %d, %d", text, at, e, place, want)
	}
	if !model.Equal(m, api.Model{}) {
		t.Errorf("rule 2: %.300q: beside an error %.300v", text, m)
	}
}

// checkBehind checks wrong items behind three variables.
func checkBehind(t *testing.T, marked string, want api.Errno) {
	t.Helper()
	checkWrong(t, threeVars+marked, want)
}

// threeVars ahead of an item.
const threeVars = "var 1..3: x; var {5,2}: y; var 0..1: b; "

// ofThree: a model of these variables.
func ofThree(cons ...api.Con) api.Model {
	return api.Model{Names: []string{"x", "y", "b"}, Doms: [][]int{{1, 2, 3}, {2, 5}, {0, 1}}, Cons: cons}
}

// ofOne variable, x.
func ofOne(values ...int) api.Model {
	return api.Model{Names: []string{"x"}, Doms: [][]int{values}}
}

func TestP7_1Example(t *testing.T) {
	checkFault(t, "var 1..3: x; constraint all_different([x,y]);", 41, api.ErrName)
}

func TestP7_1WholeModel(t *testing.T) {
	checkModel(t, "% a model\nvar 1..3: x;\nvar {5,2}: y; % values\r\nvar 0..1: b;\n\nconstraint lin_reif([2,-3],[x,y],-4,b);constraint clause([],[b,b]);\nsolve maximize y;%", api.Model{
		Names: []string{"x", "y", "b"},
		Doms:  [][]int{{1, 2, 3}, {2, 5}, {0, 1}},
		Cons: []api.Con{
			{Kind: api.LinReif, A: list(0, 1), B: list(2), C: list(2, -3), K: -4},
			{Kind: api.Clause, B: list(2, 2)},
		},
		Goal: api.Maximize, Obj: 1,
	})
}

func TestP7_1NoVariables(t *testing.T) {
	for _, text := range []string{"solve satisfy;", "solve satisfy ;", " \t\r\nsolve%\nsatisfy\n;\n", "%\nsolve satisfy;% ;"} {
		checkModel(t, text, api.Model{})
	}
}

func TestP7_1ItemsInAnyOrder(t *testing.T) {
	checkModel(t, "var 4..4: b; constraint circuit([b]); var 1..1: a; constraint circuit([a]); constraint circuit([b]); var 2..2: c; solve satisfy;", api.Model{
		Names: []string{"b", "a", "c"},
		Doms:  [][]int{{4}, {1}, {2}},
		Cons:  []api.Con{{Kind: api.Circuit, A: list(0)}, {Kind: api.Circuit, A: list(1)}, {Kind: api.Circuit, A: list(0)}},
	})
}

func TestP7_1Blanks(t *testing.T) {
	text := "var {-1,1}:x;var 0..1:y;constraint lin_eq([1],[x],-2);constraint table([x,y],[[1,2],[3,-4]]);solve minimize x;"
	want, _, e := Parse(text)
	if e != api.OK || len(want.Cons) != 2 {
		t.Fatalf("P7.1: %v, %d", want, e)
	}
	for _, between := range []string{" ", "\t", "\n", "\r", "\r\n", " \t\n", "%\n", " % ; var é \xff 01\n "} {
		spread := strings.Join(partsOf(t, text), between)
		checkModel(t, spread, want)
		checkModel(t, between+spread+between, want)
	}
}

func TestP7_1Syntax(t *testing.T) {
	for _, marked := range []string{
		"^", " \n^", "% x^", "^;", "^1", "^..", "^x", "^x;", "^Var 1..2: x;", "^vars 1..2: x;", "^satisfy;", "^minimize", "^all_different", "^(", "^,", "^{1}: x;",
		"var^", "var %^", "var ^x", "var ^: x;", "var ^[1]: x;", "var ^(1): x;", "var ^..2: x;", "var ^}: x;", "var ^,: x;", "var ^;", "var ^var", "var ^domain: x;",
		"var 1^", "var 1^: x;", "var 1 ^2: x;", "var 1^,2: x;", "var 1 ^x;", "var 1^-2: x;", "var 1..^", "var 1..^: x;", "var 1..^x;", "var 1..^..2: x;", "var 1..^{2}: x;", "var 1..^;",
		"var 1..2^", "var 1..2^..3: x;", "var 1..2 ^3: x;", "var 1..2 ^x;", "var 1..2^; x;", "var 1..2^,: x;", "var 1..2^}: x;",
		"var {^", "var {^x}: x;", "var {^,}: x;", "var {^;", "var {^..", "var {^{1}}: x;", "var {^[1]}: x;", "var {^]: x;", "var {1^", "var {1^: x;", "var {1^]: x;", "var {1 ^2}: x;", "var {1^..2}: x;", "var {1^;2}: x;", "var {1^{", "var {1,^", "var {1,^}: x;", "var {1,^,2}: x;", "var {1,^x}: x;", "var {1,2^", "var {1,2,^}: x;", "var {1}^", "var {1}^}: x;", "var {1} ^x;", "var {1}^; x;", "var {1}^,: x;",
		"var 1..2:^", "var 1..2: ^1;", "var 1..2: ^;", "var 1..2:^: x;", "var 1..2: ^[x];", "var 1..2: ^{x};",
		"var 1..2: x^", "var 1..2: x^: y;", "var 1..2: x^, y;", "var 1..2: x ^y;", "var 1..2: x ^var 1..2: y;", "var 1..2: x ^solve satisfy;", "var 1..2: x^..", "var 1..2: x ^1;",
		"var 1..2: x;^", "var 1..2: x; \n^", "var 1..2: x;^;", "var 1..2: x; ^x;", "var 1..2: x; ^1;", "var 1..2: x; ^satisfy;",
	} {
		checkWrong(t, marked, api.ErrSyntax)
	}
}

func TestP7_1ConstraintsSyntax(t *testing.T) {
	for _, marked := range []string{
		"constraint^", "constraint ^1", "constraint ^(", "constraint ^;", "constraint ^[x]", "constraint%\n^",
		"constraint times^", "constraint times ^x", "constraint times ^1", "constraint times^;", "constraint times^[x,x,x];", "constraint times^{x,x,x};", "constraint times^)",
		"constraint times(^", "constraint times(^)", "constraint times(^,x,x);", "constraint times(^1,x,x);", "constraint times(^[x],x,x);", "constraint times(^(x),x,x);", "constraint times(^;",
		"constraint times(x^", "constraint times(x^)", "constraint times(x ^x,x);", "constraint times(x^;", "constraint times(x^]", "constraint times(x,^", "constraint times(x,^)", "constraint times(x,^,x);", "constraint times(x,x^)", "constraint times(x,x,^)", "constraint times(x,x,x^", "constraint times(x,x,x^,x);", "constraint times(x,x,x^,);", "constraint times(x,x,x ^x);", "constraint times(x,x,x^;", "constraint times(x,x,x^];", "constraint times(x,x,x^});",
		"constraint times(x,x,x)^", "constraint times(x,x,x)^)", "constraint times(x,x,x) ^x", "constraint times(x,x,x)^,", "constraint times(x,x,x)^:", "constraint times(x,x,x) ^solve satisfy;", "constraint times(x,x,x);^", "constraint times(x,x,x);^;",
		"constraint abs(x^);", "constraint abs(x,x^,x);",
		"constraint circuit(^x);", "constraint circuit(^);", "constraint circuit([^", "constraint circuit([^,", "constraint circuit([^)", "constraint circuit([^1]);", "constraint circuit([^[x]]);", "constraint circuit([^}", "constraint circuit([x^", "constraint circuit([x^)", "constraint circuit([x ^x]);", "constraint circuit([x^;x]);", "constraint circuit([x^[", "constraint circuit([x^..x]);", "constraint circuit([x,^", "constraint circuit([x,^]);", "constraint circuit([x,^,x]);", "constraint circuit([x,^1]);", "constraint circuit([x]^", "constraint circuit([x]^]);", "constraint circuit([x]^;", "constraint circuit([x]^,[x]);", "constraint circuit(^{x});",
		"constraint lin_eq(^1,[x],0);", "constraint lin_eq([^x],[x],0);", "constraint lin_eq([^[1]],[x],0);", "constraint lin_eq([1^..2],[x],0);", "constraint lin_eq([1],[^1],0);", "constraint lin_eq([1],[x]^);", "constraint lin_eq([1],[x],^);", "constraint lin_eq([1],[x],^x);", "constraint lin_eq([1],[x],^[0]);", "constraint lin_eq([1],[x],0^,x);", "constraint lin_eq([1],[x],0^,0);", "constraint lin_eq([1]^[x],0);",
		"constraint lin_reif([1],[x],0^);", "constraint lin_reif([1],[x],0,^[b]);", "constraint lin_reif([1],[x],0,^0);", "constraint lin_reif([1],[x],^b,0);",
		"constraint element(^[x],[1],x);", "constraint element(x,^1,x);", "constraint element(x,[^x],x);", "constraint element(x,[1],^1);", "constraint element(x,[1]^);", "constraint element(x,^x);",
		"constraint clause([x]^);", "constraint clause([x],^x);", "constraint clause([x],[^1]);", "constraint clause([x],[b]^,[b]);",
		"constraint eq_reif(x,^b,b);", "constraint le_imp(x,1^);", "constraint le_imp(x,1,^1);", "constraint le_imp(^1,x,b);",
		"constraint table([x]^);", "constraint table([x],^1);", "constraint table([x],[^1]);", "constraint table([x],[^x]);", "constraint table([x],[^(1)]);", "constraint table([x],[[^x]]);", "constraint table([x],[[^[1]]]);", "constraint table([x],[[1]^[1]]);", "constraint table([x],[[1],^]);", "constraint table([x],[[1],^1]);", "constraint table([x],[[1]^);", "constraint table([x],[[1^);", "constraint table([x],[[1,^]]);", "constraint table([x],[[1]]^]);", "constraint table([x],[[1]]^,[[1]]);",
		"constraint cumulative([x],[1],[1]^);", "constraint cumulative([x],[1],[1],^[1]);", "constraint cumulative([x],[1],^1,[1]);", "constraint gcc([x],[1],[1]^);", "constraint gcc([x],[1],[1],^1);", "constraint gcc([x],[1],[1],[^x]);", "constraint gcc([x],[1],[1],[1]^,1);", "constraint lex_le([x]^);", "constraint inverse([x],^);",
	} {
		checkBehind(t, marked, api.ErrSyntax)
	}
}

func TestP7_1Solve(t *testing.T) {
	for goal, want := range map[string]int{"satisfy": api.Satisfy, "minimize x": api.Minimize, "maximize x": api.Maximize} {
		m := ofThree()
		m.Goal = want
		checkModel(t, threeVars+"solve "+goal+";", m)
	}
	for place, name := range []string{"x", "y", "b"} {
		m := ofThree()
		m.Goal, m.Obj = api.Minimize, place
		checkModel(t, threeVars+"solve minimize "+name+";", m)
		m.Goal = api.Maximize
		checkModel(t, threeVars+"solve maximize "+name+";", m)
	}
	for _, marked := range []string{
		"solve^", "solve ^;", "solve ^1;", "solve ^x;", "solve ^Satisfy;", "solve ^minimise x;", "solve ^(", "solve ^solve", "solve ^[satisfy];",
		"solve satisfy^", "solve satisfy ^x;", "solve satisfy ^1;", "solve satisfy^,", "solve satisfy^:", "solve satisfy ^satisfy;",
		"solve minimize^", "solve minimize^;", "solve minimize ^1;", "solve minimize ^[x];", "solve maximize ^;", "solve maximize ^(x);", "solve minimize x^", "solve minimize x ^y;", "solve minimize x^,", "solve maximize x^:",
		"solve satisfy;^;", "solve satisfy; ^x", "solve satisfy; ^1", "solve satisfy; ^solve satisfy;", "solve minimize x; ^solve minimize x;", "solve satisfy; ^var 1..2: z;", "solve satisfy; ^constraint circuit([x]);", "solve maximize x;\n%\n^)",
	} {
		checkBehind(t, marked, api.ErrSyntax)
	}
	checkWrong(t, "^constraint_ times", api.ErrSyntax)
}

func TestP7_1Domains(t *testing.T) {
	for domain, want := range map[string][]int{
		"1..3": {1, 2, 3}, "0..0": {0}, "-1..1": {-1, 0, 1}, "-3..-2": {-3, -2}, "1000000..1000000": {api.MaxValue}, "-1000000..-1000000": {-api.MaxValue}, "999999..1000000": {api.MaxValue - 1, api.MaxValue},
		"{1}": {1}, "{3,1,2}": {1, 2, 3}, "{5,2,5}": {2, 5}, "{2,2,2}": {2}, "{-1,7,0,-1}": {-1, 0, 7}, "{-1000000}": {-api.MaxValue}, "{1000000}": {api.MaxValue}, "{1000000,999999}": {api.MaxValue - 1, api.MaxValue}, "{65535,0}": {0, api.MaxWidth - 1}, "{0,-65535}": {1 - api.MaxWidth, 0},
		"0..65535": rising(0, api.MaxWidth-1), "-65535..0": rising(1-api.MaxWidth, 0), "-30000..35535": rising(-30000, 35535), "934465..1000000": rising(api.MaxValue-api.MaxWidth+1, api.MaxValue),
	} {
		checkModel(t, "var "+domain+": x; solve satisfy;", ofOne(want...))
	}
	many := "{" + strings.Repeat("7,", 100000) + "3}"
	checkModel(t, "var "+many+": x; solve satisfy;", ofOne(3, 7))
}

// wrongDomains: layer 2's errors of them.
var wrongDomains = map[string]api.Errno{
	"3..1": api.ErrEmpty, "0..-1": api.ErrEmpty, "1000000..-1000000": api.ErrEmpty, "{}": api.ErrEmpty, "{ % \n}": api.ErrEmpty,
	"1..1000001": api.ErrRange, "-1000001..1": api.ErrRange, "1000001..1": api.ErrRange, "1..-1000001": api.ErrRange, "9999999999..9999999999": api.ErrRange, "-9999999999..9999999999": api.ErrRange, "{1000001}": api.ErrRange, "{0,-1000001}": api.ErrRange, "{9999999999,-9999999999}": api.ErrRange, "{1,2,4294967296}": api.ErrRange,
	"0..65536": api.ErrWide, "-1..65535": api.ErrWide, "-1000000..1000000": api.ErrWide, "{0,65536}": api.ErrWide, "{65535,3,-1}": api.ErrWide, "{-1000000,1000000}": api.ErrWide,
}

func TestP7_1WrongDomains(t *testing.T) {
	for domain, want := range wrongDomains {
		// Once it is read, whatever comes behind it.
		for _, behind := range []string{": x; solve satisfy;", "", " ", ": x;", ":", " x", ";", "}", "..3", ": 1", ": var;"} {
			checkWrong(t, "var ^"+domain+behind, want)
			checkWrong(t, "var 1..2: x; var\n ^"+domain+behind, want)
		}
	}
	for _, marked := range []string{"var 3..^x", "var 3..^", "var {1000001^", "var {1000001,^}", "var {0,65536^;", "var 1000001^", "var 1000001^: x;", "var {^"} {
		checkWrong(t, marked, api.ErrSyntax)
	}
}

func TestP7_1Names(t *testing.T) {
	names := []string{"x", "X", "x_", "x1", "aZ_09", "vars", "Var", "constraints", "solves", "satisfy", "minimize", "maximize", "times", "all_different", strings.Repeat("n", api.MaxName), strings.Repeat("n", api.MaxName-1)}
	var want api.Model
	text := ""
	for place, name := range names {
		text += "var 0..1: " + name + "; "
		want.Names, want.Doms = append(want.Names, name), append(want.Doms, list(0, 1))
		want.Goal, want.Obj = api.Maximize, place
		checkModel(t, text+"solve maximize "+name+";", want)
	}
	for _, name := range names {
		text += "constraint times(" + name + "," + name + "," + name + ");"
		place := slices.Index(names, name)
		want.Cons = append(want.Cons, api.Con{Kind: api.Times, A: list(place, place, place)})
	}
	checkModel(t, text+"solve maximize "+names[len(names)-1]+";", want)
}

func TestP7_1WrongNames(t *testing.T) {
	for _, name := range []string{"var", "constraint", "solve", strings.Repeat("n", api.MaxName+1), strings.Repeat("n", 10000)} {
		for _, behind := range []string{"; solve satisfy;", "", ";", " 1", ":", " " + name} {
			checkWrong(t, "var 1..2: ^"+name+behind, api.ErrName)
			checkBehind(t, "var {4}: ^"+name+behind, api.ErrName)
		}
	}
}

func TestP7_1Twice(t *testing.T) {
	for _, behind := range []string{"; solve satisfy;", "", ";", " 1"} {
		checkWrong(t, "var 1..2: x; var 1..2: ^x"+behind, api.ErrTwice)
		checkBehind(t, "var 1..2: ^x"+behind, api.ErrTwice)
		checkBehind(t, "var 1..2: z; var {1}: ^b"+behind, api.ErrTwice)
	}
	checkWrong(t, "var 1..2: x; var ^2..1: x;", api.ErrEmpty)
	checkWrong(t, "var 1..2: var_; var 1..2: ^var_;", api.ErrTwice)
}

// manyVars: so many variables, v0 and so on.
func manyVars(n int) string {
	text := ""
	for i := range n {
		text += "var " + strconv.Itoa(i) + "..300: v" + strconv.Itoa(i) + ";\n"
	}
	return text
}

func TestP7_1ManyVariables(t *testing.T) {
	for _, n := range []int{1, 2, api.MaxVars - 1, api.MaxVars} {
		var want api.Model
		for i := range n {
			want.Names, want.Doms = append(want.Names, "v"+strconv.Itoa(i)), append(want.Doms, rising(i, 300))
		}
		want.Cons = []api.Con{{Kind: api.Abs, A: list(n-1, 0)}}
		checkModel(t, manyVars(n)+"constraint abs(v"+strconv.Itoa(n-1)+",v0); solve satisfy;", want)
	}
	full := manyVars(api.MaxVars)
	for _, behind := range []string{"", " 1..2: x; solve satisfy;", ";", " 2..1: x;", " 1..2: v0;", " 1..2: var;"} {
		checkWrong(t, full+"^var"+behind, api.ErrMany)
		checkWrong(t, full+"constraint circuit([v9]); ^var"+behind, api.ErrMany)
	}
	checkWrong(t, full+"^vars", api.ErrSyntax)
	checkWrong(t, full+"solve satisfy; ^var 1..2: x;", api.ErrSyntax)
	checkWrong(t, manyVars(api.MaxVars-1)+"var^", api.ErrSyntax)
	checkFault(t, manyVars(2*api.MaxVars), len(full), api.ErrMany)
}

func TestP7_1ManyConstraints(t *testing.T) {
	one := "constraint abs(y,b);"
	for _, n := range []int{1, 2, api.MaxCons - 1, api.MaxCons} {
		want := ofThree(slices.Repeat([]api.Con{{Kind: api.Abs, A: list(1, 2)}}, n)...)
		checkModel(t, threeVars+strings.Repeat(one, n)+"solve satisfy;", want)
	}
	full := strings.Repeat(one, api.MaxCons)
	for _, behind := range []string{"", " abs(y,b); solve satisfy;", ";", " none(", " abs(none,", " circuit([]);"} {
		checkBehind(t, full+"^constraint"+behind, api.ErrMany)
		checkBehind(t, full+"var 1..2: z; ^constraint"+behind, api.ErrMany)
	}
	checkBehind(t, full+"^abs(y,b);", api.ErrSyntax)
	checkBehind(t, full+"solve satisfy; ^constraint abs(y,b);", api.ErrSyntax)
	checkBehind(t, strings.Repeat(one, api.MaxCons-1)+"constraint ^none", api.ErrKind)
	want := ofThree(slices.Repeat([]api.Con{{Kind: api.Abs, A: list(1, 2)}}, api.MaxCons)...)
	want.Names, want.Doms = append(want.Names, "z"), append(want.Doms, list(7))
	checkModel(t, threeVars+full+"var 7..7: z; solve satisfy;", want)
}

// kinds: each one as a text behind three variables, and what that is.
var kinds = []struct {
	text string
	con  api.Con
}{
	{"lin_eq([3,-4],[x,y],5)", api.Con{Kind: api.LinEq, C: []int{3, -4}, A: []int{0, 1}, K: 5}},
	{"lin_le([0],[b],0)", api.Con{Kind: api.LinLe, C: []int{0}, A: []int{2}}},
	{"lin_ne([1000000,-1000000,1],[y,y,x],-9999999999)", api.Con{Kind: api.LinNe, C: []int{1000000, -1000000, 1}, A: []int{1, 1, 0}, K: -9999999999}},
	{"lin_reif([3,-4],[x,y],9999999999,b)", api.Con{Kind: api.LinReif, C: []int{3, -4}, A: []int{0, 1}, K: 9999999999, B: []int{2}}},
	{"times(x,y,b)", api.Con{Kind: api.Times, A: []int{0, 1, 2}}},
	{"div(b,x,y)", api.Con{Kind: api.Div, A: []int{2, 0, 1}}},
	{"mod(y,y,x)", api.Con{Kind: api.Mod, A: []int{1, 1, 0}}},
	{"abs(y,x)", api.Con{Kind: api.Abs, A: []int{1, 0}}},
	{"min(x,b,b)", api.Con{Kind: api.Min, A: []int{0, 2, 2}}},
	{"max(b,b,y)", api.Con{Kind: api.Max, A: []int{2, 2, 1}}},
	{"element(x,[7,-7,7],y)", api.Con{Kind: api.Element, A: []int{0, 1}, C: []int{7, -7, 7}}},
	{"clause([x,b],[y])", api.Con{Kind: api.Clause, A: []int{0, 2}, B: []int{1}}},
	{"clause([],[b])", api.Con{Kind: api.Clause, B: []int{2}}},
	{"clause([b],[])", api.Con{Kind: api.Clause, A: []int{2}}},
	{"eq_reif(x,-5,b)", api.Con{Kind: api.EqReif, A: []int{0}, K: -5, B: []int{2}}},
	{"le_reif(y,0,b)", api.Con{Kind: api.LeReif, A: []int{1}, B: []int{2}}},
	{"eq_imp(b,1,x)", api.Con{Kind: api.EqImp, A: []int{2}, K: 1, B: []int{0}}},
	{"le_imp(x,2,x)", api.Con{Kind: api.LeImp, A: []int{0}, K: 2, B: []int{0}}},
	{"all_different([y,b,x])", api.Con{Kind: api.AllDiff, A: []int{1, 2, 0}}},
	{"table([x,y],[[1,2],[-3,4],[1,2]])", api.Con{Kind: api.Table, A: []int{0, 1}, Rows: [][]int{{1, 2}, {-3, 4}, {1, 2}}}},
	{"table([b],[[0]])", api.Con{Kind: api.Table, A: []int{2}, Rows: [][]int{{0}}}},
	{"cumulative([x,y],[3,0],[0,2],5)", api.Con{Kind: api.Cumulative, A: []int{0, 1}, C: []int{3, 0}, D: []int{0, 2}, K: 5}},
	{"circuit([x,y])", api.Con{Kind: api.Circuit, A: []int{0, 1}}},
	{"gcc([x,y],[4,-4,0],[0,1,2],[0,5,3])", api.Con{Kind: api.Gcc, A: []int{0, 1}, C: []int{4, -4, 0}, D: []int{0, 1, 2}, E: []int{0, 5, 3}}},
	{"lex_le([x,y],[b,x])", api.Con{Kind: api.LexLe, A: []int{0, 1}, B: []int{2, 0}}},
	{"inverse([x],[y])", api.Con{Kind: api.Inverse, A: []int{0}, B: []int{1}}},
}

// allKinds: a text with one of each kind at least.
func allKinds() string {
	text := threeVars
	for _, x := range kinds {
		text += "constraint " + x.text + ";\n"
	}
	return text + "solve minimize b;"
}

func TestP7_1Kinds(t *testing.T) {
	met := map[int]int{}
	var all []api.Con
	for _, x := range kinds {
		met[x.con.Kind]++
		all = append(all, x.con)
		checkModel(t, threeVars+"constraint "+x.text+"; solve satisfy;", ofThree(x.con))
	}
	if len(met) != 23 {
		t.Errorf("P7.1: only %d kinds are tried", len(met))
	}
	want := ofThree(all...)
	want.Goal, want.Obj = api.Minimize, 2
	checkModel(t, allKinds(), want)
}

func TestP7_1NoKinds(t *testing.T) {
	for _, word := range []string{"none", "x", "Times", "TIMES", "time", "timess", "times_", "alldifferent", "lin", "var", "constraint", "solve", "satisfy", strings.Repeat("k", 1000)} {
		for _, behind := range []string{"(x,x,x); solve satisfy;", "", "(", ";", " 1", "([x])"} {
			checkBehind(t, "constraint ^"+word+behind, api.ErrKind)
		}
	}
}

func TestP7_1NoVariable(t *testing.T) {
	for _, word := range []string{"z", "X", "xx", "x_", "var", "constraint", "solve", "times", "satisfy", strings.Repeat("n", api.MaxName+1)} {
		for _, behind := range []string{"", ";", " 1", ")", "]", ",x", " "} {
			for _, ahead := range []string{"constraint times(", "constraint times(x,", "constraint times(x,y,", "constraint abs(x,", "constraint circuit([", "constraint circuit([x,y,", "constraint lin_le([1],[", "constraint lin_reif([1],[x],2,", "constraint element(", "constraint element(x,[1],", "constraint clause([", "constraint clause([],[", "constraint clause([x],[x,", "constraint eq_imp(", "constraint eq_imp(x,1,", "constraint table([", "constraint gcc([x,", "constraint cumulative([", "constraint lex_le([x],[", "solve minimize ", "solve maximize "} {
				checkBehind(t, ahead+"^"+word+behind, api.ErrName)
			}
		}
	}
	// A variable must stand ahead of what names it.
	checkWrong(t, "constraint circuit([^x]); var 1..2: x; solve satisfy;", api.ErrName)
	checkWrong(t, "solve minimize ^x; var 1..2: x;", api.ErrName)
	checkWrong(t, "solve minimize ^x;", api.ErrName)
}

func TestP7_1WrongConstraints(t *testing.T) {
	long := func(element string, n int) string { return strings.Repeat(element+",", n-1) + element }
	for text, want := range map[string]api.Errno{
		"all_different([])": api.ErrArity, "circuit([])": api.ErrArity, "clause([],[])": api.ErrArity, "lin_eq([],[],0)": api.ErrArity, "lin_eq([1],[],0)": api.ErrArity, "lin_eq([],[x],0)": api.ErrArity, "lin_ne([1,2],[x],0)": api.ErrArity, "lin_reif([1],[x,y],0,b)": api.ErrArity, "element(x,[],y)": api.ErrArity, "table([],[])": api.ErrArity, "table([x],[])": api.ErrArity, "table([x],[[]])": api.ErrArity, "table([],[[]])": api.ErrArity, "table([x],[[1],[2,3]])": api.ErrArity, "table([x,y],[[1]])": api.ErrArity, "cumulative([x],[1,2],[3],4)": api.ErrArity, "cumulative([x],[1],[],4)": api.ErrArity, "gcc([x],[1],[],[2])": api.ErrArity, "gcc([x],[],[],[])": api.ErrArity, "gcc([],[1],[1],[1])": api.ErrArity, "gcc([x],[1],[1],[2,2])": api.ErrArity, "lex_le([x],[])": api.ErrArity, "lex_le([x,y],[b])": api.ErrArity, "inverse([],[])": api.ErrArity, "inverse([x],[y,b])": api.ErrArity,
		"all_different([" + long("x", 65) + "])": api.ErrArity, "clause([x],[" + long("b", 65) + "])": api.ErrArity, "element(x,[" + long("1", 65) + "],y)": api.ErrArity, "table([x],[" + long("[1]", 1025) + "])": api.ErrArity, "circuit([" + long("x", 100000) + "])": api.ErrArity,
		"lin_eq([1000001],[x],0)": api.ErrCoef, "lin_le([1,-1000001],[x,y],0)": api.ErrCoef, "lin_le([9999999999],[x],0)": api.ErrCoef, "element(x,[1,-1000001],y)": api.ErrCoef, "table([x],[[1],[1000001]])": api.ErrCoef, "cumulative([x],[-1],[1],4)": api.ErrCoef, "cumulative([x],[1],[-1],4)": api.ErrCoef, "cumulative([x],[1],[1],-1)": api.ErrCoef, "gcc([x],[1,1],[1,1],[1,1])": api.ErrCoef, "gcc([x],[1],[2],[1])": api.ErrCoef, "gcc([x],[1],[-1],[1])": api.ErrCoef,
	} {
		// Once its ) is read, whatever comes behind it.
		for _, behind := range []string{"; solve satisfy;", "", ";", " ;", ")", " 1", ",", " constraint"} {
			checkBehind(t, "constraint ^"+text+behind, want)
		}
		// What is wrong up to the ) is told ahead of that.
		cut := text[:len(text)-1]
		checkBehind(t, "constraint "+cut+"^", api.ErrSyntax)
		checkBehind(t, "constraint "+cut+"^;", api.ErrSyntax)
		checkBehind(t, "constraint "+cut+"^,[x]);", api.ErrSyntax)
	}
	checkBehind(t, "constraint gcc([],[1000001],[],[^z]);", api.ErrSyntax)
	checkBehind(t, "constraint clause([],[^z]);", api.ErrName)
	checkBehind(t, "constraint lin_eq([1000001,2],[^z],0);", api.ErrName)
}

func TestP7_1GreatestLists(t *testing.T) {
	all := strings.Repeat("x,", api.MaxTerms-1) + "y"
	a := append(make([]int, api.MaxTerms-1), 1)
	checkModel(t, threeVars+"constraint all_different(["+all+"]); solve satisfy;", ofThree(api.Con{Kind: api.AllDiff, A: a}))
	checkModel(t, threeVars+"constraint clause(["+all+"],["+all+"]); solve satisfy;", ofThree(api.Con{Kind: api.Clause, A: a, B: a}))
	rows, text := [][]int{}, ""
	for i := range api.MaxRows {
		rows, text = append(rows, list(i, -i-1)), text+",["+strconv.Itoa(i)+","+strconv.Itoa(-i-1)+"]"
	}
	checkModel(t, threeVars+"constraint table([x,y],["+text[1:]+"]); solve satisfy;", ofThree(api.Con{Kind: api.Table, A: list(0, 1), Rows: rows}))
}

func TestP7_1Lex(t *testing.T) {
	// What layer 5 tells comes first, also if something ahead of it is wrong.
	for _, ahead := range []string{"", "solve satisfy;", "x;", "var 3..1: x;", "constraint none(", "% x\n"} {
		for text, want := range map[string]api.Errno{"?": api.ErrSyntax, "_x": api.ErrSyntax, ".": api.ErrSyntax, "- 1": api.ErrSyntax, "\xff": api.ErrSyntax, "é": api.ErrSyntax, "\x00": api.ErrSyntax, "01": api.ErrNumber, "-0": api.ErrNumber, "10000000000": api.ErrNumber, "-00..": api.ErrNumber} {
			checkWrong(t, ahead+" ^"+text, want)
			checkWrong(t, ahead+" ^"+text+" var ?", want)
		}
	}
	checkWrong(t, "var ^01..3: x;", api.ErrNumber)
	blanks := strings.Repeat(" ", api.MaxText)
	checkFault(t, blanks+" ", api.MaxText, api.ErrLong)
	checkFault(t, "?"+blanks, api.MaxText, api.ErrLong)
	checkFault(t, blanks, api.MaxText, api.ErrSyntax)
	checkModel(t, "solve satisfy;"+blanks[14:], api.Model{})
	checkModel(t, blanks[14:]+"solve satisfy;", api.Model{})
	checkFault(t, "solve satisfy;"+blanks[13:], api.MaxText, api.ErrLong)
	checkFault(t, "x"+blanks[1:], 0, api.ErrSyntax)
}

func TestP7_1LongTexts(t *testing.T) {
	for text, want := range map[string]api.Errno{
		"var {" + strings.Repeat("1,", 520000):                                   api.ErrSyntax,
		"var 1..2: x; constraint all_different([" + strings.Repeat("x,", 520000): api.ErrSyntax,
		"var 1..2: x; constraint table([x],[" + strings.Repeat("[],", 340000):    api.ErrSyntax,
	} {
		checkFault(t, text, len(text), want)
	}
	checkFault(t, strings.Repeat("(", api.MaxText), 0, api.ErrSyntax)
	deep := "var 1..2: x; constraint table([x],["
	checkFault(t, deep+strings.Repeat("[", 1000000), len(deep)+1, api.ErrSyntax)
}

// listsOf a model, all of them.
func listsOf(m *api.Model) []*[]int {
	var all []*[]int
	for i := range m.Doms {
		all = append(all, &m.Doms[i])
	}
	for i := range m.Cons {
		c := &m.Cons[i]
		all = append(all, &c.A, &c.B, &c.C, &c.D, &c.E)
		for j := range c.Rows {
			all = append(all, &c.Rows[j])
		}
	}
	return all
}

func TestRule4AnswersApart(t *testing.T) {
	want, _, _ := Parse(allKinds())
	other, _, _ := Parse(allKinds())
	m, _, _ := Parse(allKinds())
	lists, kept := listsOf(&m), listsOf(&want)
	for i, l := range lists {
		before := slices.Clone(*l)
		for j := range *l {
			(*l)[j] += 1000
		}
		_ = append(*l, 77, 78, 79)
		for k, same := range lists {
			if k != i && !slices.Equal(*same, *kept[k]) {
				t.Fatalf("rule 4: list %d shares memory with list %d", i, k)
			}
		}
		copy(*l, before)
	}
	m.Names[0] = "other"
	_ = append(m.Cons[:1], api.Con{})
	_ = append(m.Doms[:1], nil)
	if again, _, _ := Parse(allKinds()); !reflect.DeepEqual(other, want) || !reflect.DeepEqual(again, want) {
		t.Errorf("rule 4: %v, %v", other, again)
	}
}
