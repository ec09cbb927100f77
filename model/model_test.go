package model

import (
	"math"
	"slices"
	"strings"
	"testing"

	"jigsaw/api"
)

// told of all kinds by the chapter, in its order.
var told = []struct {
	kind  int
	word  string
	shape string
}{
	{api.LinEq, "lin_eq", "cVk"},
	{api.LinLe, "lin_le", "cVk"},
	{api.LinNe, "lin_ne", "cVk"},
	{api.LinReif, "lin_reif", "cVkw"},
	{api.Times, "times", "vvv"},
	{api.Div, "div", "vvv"},
	{api.Mod, "mod", "vvv"},
	{api.Abs, "abs", "vv"},
	{api.Min, "min", "vvv"},
	{api.Max, "max", "vvv"},
	{api.Element, "element", "vcv"},
	{api.Clause, "clause", "VW"},
	{api.EqReif, "eq_reif", "vkw"},
	{api.LeReif, "le_reif", "vkw"},
	{api.EqImp, "eq_imp", "vkw"},
	{api.LeImp, "le_imp", "vkw"},
	{api.AllDiff, "all_different", "V"},
	{api.Table, "table", "Vr"},
	{api.Cumulative, "cumulative", "Vcdk"},
	{api.Circuit, "circuit", "V"},
	{api.Gcc, "gcc", "Vcde"},
	{api.LexLe, "lex_le", "VW"},
	{api.Inverse, "inverse", "VW"},
}

// noKinds: numbers that no kind is.
var noKinds = []int{0, 24, 25, -1, -23, 256 + api.Min, 1<<32 + api.Min, math.MinInt, math.MinInt + 1, math.MaxInt}

func list(v ...int) []int { return v }

// rising numbers from low on.
func rising(low, n int) []int {
	l := make([]int, n)
	for i := range l {
		l[i] = low + i
	}
	return l
}

func TestP6_1Kinds(t *testing.T) {
	if len(told) != 23 || told[0].kind != 1 || told[22].kind != 23 {
		t.Fatalf("P6.1: the kinds are %v", told)
	}
	for _, x := range told {
		if word, ok := Word(x.kind); word != x.word || !ok {
			t.Errorf("P6.1: Word(%d): %q, %v; want %q", x.kind, word, ok, x.word)
		}
		if kind, ok := Kind(x.word); kind != x.kind || !ok {
			t.Errorf("P6.1: Kind(%q): %d, %v; want %d", x.word, kind, ok, x.kind)
		}
		if shape := Shape(x.kind); shape != x.shape {
			t.Errorf("P6.1: Shape(%d): %q; want %q", x.kind, shape, x.shape)
		}
	}
}

func TestP6_1NoKinds(t *testing.T) {
	for _, kind := range noKinds {
		if word, ok := Word(kind); word != "" || ok {
			t.Errorf("P6.1: Word(%d): %q, %v", kind, word, ok)
		}
		if shape := Shape(kind); shape != "" {
			t.Errorf("P6.1: Shape(%d): %q", kind, shape)
		}
	}
}

func TestP6_1NoWords(t *testing.T) {
	words := []string{"", " ", "_", "x", "cVk", "V", "alldiff", "all_diff", "AllDiff", "var", "constraint", "solve", "satisfy", "lin", "lin_", "eq", "1", "\x00", "\xff", "é", strings.Repeat("a", api.MaxText+1)}
	for _, x := range told {
		words = append(words, strings.ToUpper(x.word), strings.ToUpper(x.word[:1])+x.word[1:], x.word+" ", " "+x.word, x.word+"\x00", x.word+"\xff", x.word+"_", x.word+x.word, x.word+"s", x.word[1:], x.word[:len(x.word)-1], x.word+"(")
	}
	for _, word := range words {
		if kind, ok := Kind(word); kind != 0 || ok {
			t.Errorf("P6.1: Kind(%.60q): %d, %v", word, kind, ok)
		}
	}
}

func TestP6_1Vars(t *testing.T) {
	for _, x := range []struct{ a, b, want []int }{
		{nil, nil, nil},
		{list(), list(), nil},
		{list(0), nil, list(0)},
		{nil, list(0), list(0)},
		{list(2, 0, 1), nil, list(2, 0, 1)},
		{list(3, 1), list(2), list(3, 1, 2)},
		{list(3, 1), list(1, 3), list(3, 1, 1, 3)},
		{list(1, 1), list(1, 1), list(1, 1, 1, 1)},
		{list(-1, math.MaxInt), list(math.MinInt), list(-1, math.MaxInt, math.MinInt)},
		{rising(0, 1000), rising(5, 1000), append(rising(0, 1000), rising(5, 1000)...)},
	} {
		for _, kind := range append(noKinds, api.LinEq, api.Times, api.Clause, api.AllDiff, api.Inverse) {
			c := api.Con{Kind: kind, A: x.a, B: x.b, C: list(7), D: list(8), E: list(9), K: 10, Rows: [][]int{{11}}}
			if l := Vars(c); !slices.Equal(l, x.want) {
				t.Errorf("P6.1: Vars of kind %d, %v, %v: %v", kind, x.a, x.b, l)
			}
		}
	}
}

func TestP6_1VarsAreNew(t *testing.T) {
	behind := []int{1, 2, 3, 4}
	for _, c := range []api.Con{{A: behind[:2]}, {B: behind[:2]}, {A: behind[:1], B: behind[1:2]}} {
		l := Vars(c)
		again := Vars(c)
		l[0], l[1] = 8, 9
		_ = append(l, 7)
		if !slices.Equal(behind, []int{1, 2, 3, 4}) {
			t.Fatalf("rule 4: what was handed in is %v", behind)
		}
		if !slices.Equal(again, []int{1, 2}) || !slices.Equal(Vars(c), []int{1, 2}) {
			t.Errorf("rule 4: %v, %v", again, Vars(c))
		}
	}
}
