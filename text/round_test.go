package text

import (
	"fmt"
	"slices"
	"strconv"
	"strings"
	"testing"

	"jigsaw/api"
	"jigsaw/model"
	"jigsaw/parse"
)

// drawer: numbers from 0 to below n that are the same in every run.
func drawer(seed uint32) func(n int) int {
	return func(n int) int {
		seed = seed*1664525 + 1013904223
		return int(uint64(seed) * uint64(n) >> 32)
	}
}

// plainNumbers, with a comma between.
func plainNumbers(l []int) string {
	s := ""
	for _, v := range l {
		s += fmt.Sprintf(",%d", v)
	}
	return strings.TrimPrefix(s, ",")
}

// plainNames, likewise.
func plainNames(places []int, names []string) string {
	s := ""
	for i, v := range places {
		if i > 0 {
			s += ","
		}
		s += names[v]
	}
	return s
}

// plainLine of a constraint that may be, kind by kind.
func plainLine(c api.Con, names []string) string {
	name := func(l []int, i int) string { return plainNames(l[i:i+1], names) }
	a, b := "["+plainNames(c.A, names)+"]", "["+plainNames(c.B, names)+"]"
	cs, ds, es := "["+plainNumbers(c.C)+"]", "["+plainNumbers(c.D)+"]", "["+plainNumbers(c.E)+"]"
	linear := fmt.Sprintf("%s,%s,%d", cs, a, c.K)
	three := plainNames(c.A, names)
	var rows []string
	for _, row := range c.Rows {
		rows = append(rows, "["+plainNumbers(row)+"]")
	}
	told := func() string { return fmt.Sprintf("%s,%d,%s", name(c.A, 0), c.K, name(c.B, 0)) }
	inside := map[int]func() string{
		api.LinEq:      func() string { return "lin_eq(" + linear },
		api.LinLe:      func() string { return "lin_le(" + linear },
		api.LinNe:      func() string { return "lin_ne(" + linear },
		api.LinReif:    func() string { return "lin_reif(" + linear + "," + name(c.B, 0) },
		api.Times:      func() string { return "times(" + three },
		api.Div:        func() string { return "div(" + three },
		api.Mod:        func() string { return "mod(" + three },
		api.Abs:        func() string { return "abs(" + three },
		api.Min:        func() string { return "min(" + three },
		api.Max:        func() string { return "max(" + three },
		api.Element:    func() string { return "element(" + name(c.A, 0) + "," + cs + "," + name(c.A, 1) },
		api.Clause:     func() string { return "clause(" + a + "," + b },
		api.EqReif:     func() string { return "eq_reif(" + told() },
		api.LeReif:     func() string { return "le_reif(" + told() },
		api.EqImp:      func() string { return "eq_imp(" + told() },
		api.LeImp:      func() string { return "le_imp(" + told() },
		api.AllDiff:    func() string { return "all_different(" + a },
		api.Table:      func() string { return "table(" + a + ",[" + strings.Join(rows, ",") + "]" },
		api.Cumulative: func() string { return fmt.Sprintf("cumulative(%s,%s,%s,%d", a, cs, ds, c.K) },
		api.Circuit:    func() string { return "circuit(" + a },
		api.Gcc:        func() string { return "gcc(" + a + "," + cs + "," + ds + "," + es },
		api.LexLe:      func() string { return "lex_le(" + a + "," + b },
		api.Inverse:    func() string { return "inverse(" + a + "," + b },
	}[c.Kind]
	return "constraint " + inside() + ");"
}

// plainText of a model that may be.
func plainText(m api.Model) string {
	s := ""
	for i, l := range m.Doms {
		gap := false
		for j := 1; j < len(l); j++ {
			gap = gap || l[j] != l[j-1]+1
		}
		if gap {
			s += fmt.Sprintf("var {%s}: %s;\n", plainNumbers(l), m.Names[i])
		} else {
			s += fmt.Sprintf("var %d..%d: %s;\n", slices.Min(l), slices.Max(l), m.Names[i])
		}
	}
	for _, c := range m.Cons {
		s += plainLine(c, m.Names) + "\n"
	}
	if m.Goal == api.Satisfy {
		return s + "solve satisfy;\n"
	}
	return s + fmt.Sprintf("solve %s %s;\n", []string{"", "minimize", "maximize"}[m.Goal], m.Names[m.Obj])
}

// drawnNumbers, n of them, from low to high.
func drawnNumbers(draw func(n int) int, n, low, high int) []int {
	l := make([]int, n)
	for i := range l {
		l[i] = low + draw(high-low+1)
		switch draw(40) {
		case 0:
			l[i] = low
		case 1:
			l[i] = high
		}
	}
	return l
}

// drawnCon that may be, of so many variables.
func drawnCon(draw func(n int) int, vars int) api.Con {
	kind := 1 + draw(23)
	n := 1 + draw([]int{2, 4, api.MaxTerms}[draw(3)])
	width := []int{3, 100, api.MaxCoef}[draw(3)]
	places := func(n int) []int { return drawnNumbers(draw, n, 0, vars-1) }
	c := api.Con{Kind: kind, A: places(n)}
	least := -width
	if kind == api.Cumulative {
		least = 0
	}
	switch model.Shape(kind) {
	case "vvv":
		c.A = places(3)
	case "vv":
		c.A = places(2)
	case "vkw":
		c.A, c.B, c.K = places(1), places(1), drawnNumbers(draw, 1, -api.MaxK, api.MaxK)[0]
	case "vcv":
		c.A, c.C = places(2), drawnNumbers(draw, n, least, width)
	case "cVk":
		c.C, c.K = drawnNumbers(draw, n, least, width), draw(9)-4
	case "cVkw":
		c.C, c.K, c.B = drawnNumbers(draw, n, least, width), draw(9)-4, places(1)
	case "VW":
		c.B = places(n)
		if kind == api.Clause {
			c.A, c.B = places(draw(n+1)), places(1+draw(n))
		}
	case "Vr":
		for range 1 + draw(5) {
			c.Rows = append(c.Rows, drawnNumbers(draw, n, least, width))
		}
	case "Vcdk":
		c.C, c.D, c.K = drawnNumbers(draw, n, least, width), drawnNumbers(draw, n, 0, width), draw(width)
	case "Vcde":
		c.C = slices.Compact(slices.Sorted(slices.Values(drawnNumbers(draw, n, least, width))))
		c.D = drawnNumbers(draw, len(c.C), 0, width/2)
		c.E = drawnNumbers(draw, len(c.C), width/2, width)
	}
	return c
}

// drawnDomain: some numbers, at times all of a range.
func drawnDomain(draw func(n int) int) []int {
	low := draw(41) - 20
	if draw(9) == 0 {
		low = api.MaxValue - 20
	}
	n := 1 + draw(8)
	if draw(2) == 0 {
		return rising(low, n)
	}
	return slices.Compact(slices.Sorted(slices.Values(drawnNumbers(draw, n, low, low+20))))
}

// drawnModel that may be.
func drawnModel(draw func(n int) int) api.Model {
	var m api.Model
	words := []string{"x", "satisfy", "lin_eq", "V", "minimize_", strings.Repeat("n", api.MaxName-3)}
	for i := range draw(7) {
		m.Names = append(m.Names, words[draw(len(words))]+strconv.Itoa(i))
		m.Doms = append(m.Doms, drawnDomain(draw))
	}
	if len(m.Names) == 0 {
		return m
	}
	for range draw(6) {
		m.Cons = append(m.Cons, drawnCon(draw, len(m.Names)))
	}
	m.Goal = draw(3)
	if m.Goal != api.Satisfy {
		m.Obj = draw(len(m.Names))
	}
	return m
}

// checkRound: what is printed is parsed again to the model, and printed again
// as the same text.
func checkRound(t *testing.T, m api.Model) {
	t.Helper()
	text, e := Print(m)
	if e != api.OK {
		t.Fatalf("P8.1: %.300s: %d", fmt.Sprint(m), e)
	}
	again, at, e := parse.Parse(text)
	if at != 0 || e != api.OK || !model.Equal(m, again) {
		t.Fatalf("P8.2: %.300q: %.300s, %d, %d; want %.300s", text, fmt.Sprint(again), at, e, fmt.Sprint(m))
	}
	if twice, e := Print(again); twice != text || e != api.OK {
		t.Fatalf("P8.2: %.300q, %d; want %.300q", twice, e, text)
	}
}

func TestP8_1DrawnModels(t *testing.T) {
	draw := drawer(8)
	met := map[int]int{}
	for range 3000 {
		m := drawnModel(draw)
		checkPrint(t, m, plainText(m), api.OK)
		for _, c := range m.Cons {
			checkLine(t, c, m.Names, plainLine(c, m.Names), api.OK)
			met[c.Kind]++
		}
	}
	if len(met) != 23 {
		t.Errorf("P8.1: %d kinds were drawn", len(met))
	}
}

// Whatever is handed in: the error is layer 6's, and there is a text just if
// there is none.
func TestP8_1DrawnFaults(t *testing.T) {
	draw := drawer(81)
	met := map[api.Errno]int{}
	for range 20000 {
		m := drawnModel(draw)
		for range 1 + draw(2) {
			spoil(draw, &m)
		}
		_, want := model.Check(m)
		met[want]++
		text := ""
		if want == api.OK {
			text = plainText(m)
			checkRound(t, m)
		}
		checkPrint(t, m, text, want)
		for _, c := range m.Cons {
			names := xyz[:draw(5)]
			want, line := model.Right(c, len(names)), ""
			if want == api.OK {
				line = plainLine(c, names)
			}
			checkLine(t, c, names, line, want)
		}
	}
	for _, e := range []api.Errno{api.OK, api.ErrArg, api.ErrName, api.ErrTwice, api.ErrRange, api.ErrKind, api.ErrArity, api.ErrCoef, api.ErrGoal} {
		if met[e] < 20 {
			t.Errorf("P8.1: error %d was met %d times", e, met[e])
		}
	}
}

// spoil a model somewhere, perhaps.
func spoil(draw func(n int) int, m *api.Model) {
	switch what := draw(8); {
	case what == 0:
		m.Goal = draw(5) - 1
	case what == 1:
		m.Obj = draw(8) - 1
	case what == 2:
		m.Names = append(m.Names, "more")
	case what == 3 && len(m.Names) > 0:
		m.Names[draw(len(m.Names))] = []string{"", "var", m.Names[0], "fine"}[draw(4)]
	case what == 4 && len(m.Doms) > 0:
		m.Doms[draw(len(m.Doms))] = [][]int{nil, {1, 1}, {2, 1}, {1000001}, {5}}[draw(5)]
	case len(m.Cons) > 0:
		spoilCon(draw, &m.Cons[draw(len(m.Cons))])
	}
}

// spoilCon: one of its numbers is another, or there is one less or more.
func spoilCon(draw func(n int) int, c *api.Con) {
	parts := []*[]int{&c.A, &c.B, &c.C, &c.D, &c.E}
	for i := range c.Rows {
		parts = append(parts, &c.Rows[i])
	}
	l := parts[draw(len(parts))]
	others := []int{-1, 0, 1, 4, 9, api.MaxCoef, api.MaxCoef + 1, -api.MaxCoef, -api.MaxCoef - 1, -1 << 63, 1<<63 - 1}
	switch draw(9) {
	case 0:
		c.Kind = draw(26) - 1
	case 1:
		c.K = others[draw(len(others))]
	case 2:
		*l = append(*l, draw(3))
	case 3:
		c.Rows = append(c.Rows, ints(1))
	default:
		if n := len(*l); n > 0 {
			(*l)[draw(n)] = others[draw(len(others))]
		}
	}
}

func TestP8_2PrintedIsParsed(t *testing.T) {
	m, _ := whole()
	checkRound(t, m)
	checkRound(t, api.Model{})
	draw := drawer(82)
	for range 5000 {
		checkRound(t, drawnModel(draw))
	}
}

func TestP8_2AtTheLimits(t *testing.T) {
	var m api.Model
	for i := range api.MaxVars {
		name := "v" + strconv.Itoa(i) + "_"
		m.Names = append(m.Names, name+strings.Repeat("n", api.MaxName-len(name)))
		m.Doms = append(m.Doms, rising(i-api.MaxValue, api.MaxWidth-i))
	}
	all := rising(api.MaxVars-api.MaxTerms, api.MaxTerms)
	for range api.MaxCons {
		m.Cons = append(m.Cons, api.Con{Kind: api.LinEq, A: ints(0, 255), C: ints(api.MaxCoef, -api.MaxCoef), K: -api.MaxK})
	}
	m.Cons[7] = api.Con{Kind: api.Clause, A: all, B: all}
	m.Cons[api.MaxCons-1] = api.Con{Kind: api.Table, A: ints(0, 1), Rows: make([][]int, api.MaxRows)}
	for i := range api.MaxRows {
		m.Cons[api.MaxCons-1].Rows[i] = ints(i-api.MaxCoef, api.MaxCoef)
	}
	m.Goal, m.Obj = api.Minimize, api.MaxVars-1
	checkRound(t, m)
}

// ofBytes: a model with a text of so many bytes: four tables of zeros, and
// longer numbers in their places till there are bytes enough.
func ofBytes(t *testing.T, n int) api.Model {
	t.Helper()
	m := api.Model{Names: []string{"x"}, Doms: [][]int{{1}}}
	for range 4 {
		c := api.Con{Kind: api.Table, A: make([]int, api.MaxTerms)}
		for range api.MaxRows {
			c.Rows = append(c.Rows, make([]int, api.MaxTerms))
		}
		m.Cons = append(m.Cons, c)
	}
	text, _ := Print(m)
	missing := n - len(text)
	for _, c := range m.Cons {
		for _, row := range c.Rows {
			for i := range row {
				more := min(missing, 6)
				row[i], _ = strconv.Atoi("1" + strings.Repeat("0", more))
				missing -= more
			}
		}
	}
	if missing != 0 {
		t.Fatalf("%d bytes are missing", missing)
	}
	return m
}

// A text of more than MaxText bytes is printed, too, but not parsed.
func TestP8_2LongTexts(t *testing.T) {
	for n := api.MaxText - 2; n <= api.MaxText+2; n++ {
		m := ofBytes(t, n)
		text, e := Print(m)
		if len(text) != n || e != api.OK {
			t.Fatalf("P8.1: %d bytes, %d; want %d", len(text), e, n)
		}
		if n <= api.MaxText {
			checkRound(t, m)
			continue
		}
		if _, _, e := parse.Parse(text); e != api.ErrLong {
			t.Errorf("P8.2: %d bytes: %d", n, e)
		}
		lines := strings.Split(text, "\n")
		for i, c := range m.Cons {
			if line, e := Line(c, m.Names); line != lines[i+1] || e != api.OK {
				t.Errorf("P8.1: constraint %d of a long text: %.100q, %d", i, line, e)
			}
		}
	}
}

func TestP8_2ParsedAndPrinted(t *testing.T) {
	for _, x := range []struct{ text, want string }{
		{"solve satisfy;", "solve satisfy;\n"},
		{"solve\tsatisfy\n;% the end", "solve satisfy;\n"},
		{"var {3,1,2}:x;solve minimize x;", "var 1..3: x;\nsolve minimize x;\n"},
		{"var {3,1,3}:x;solve maximize x;", "var {1,3}: x;\nsolve maximize x;\n"},
		{"var {5,5}:x;solve satisfy;", "var 5..5: x;\nsolve satisfy;\n"},
		{"var 5 .. 5 : x ; solve satisfy ;", "var 5..5: x;\nsolve satisfy;\n"},
		{"var {7, -3 , 0}: x;solve satisfy;", "var {-3,0,7}: x;\nsolve satisfy;\n"},
		{"var 1..2: x; constraint clause ( [ ] , [ x , x ] ) ; var 0..1: y; constraint lin_eq([1,\t0],[x,y],0); solve satisfy;", "var 1..2: x;\nvar 0..1: y;\nconstraint clause([],[x,x]);\nconstraint lin_eq([1,0],[x,y],0);\nsolve satisfy;\n"},
	} {
		m, _, e := parse.Parse(x.text)
		if e != api.OK {
			t.Fatalf("P8.2: %q: %d", x.text, e)
		}
		checkPrint(t, m, x.want, api.OK)
		checkRound(t, m)
	}
}
