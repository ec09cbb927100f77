package parse

import (
	"encoding/json"
	"slices"
	"strconv"
	"strings"
	"testing"

	"jigsaw/api"
	"jigsaw/lex"
	"jigsaw/model"
)

// plain reads a text the plain way: token by token, with a list of what must
// come. A name there that begins with ! is something to do as soon as what
// stands ahead of it was read.
type plain struct {
	toCome  []string
	m       api.Model
	start   lex.Token // of a domain, or a constraint's word
	numbers []int     // of a domain
	inside  string    // of a constraint, as JSON: with places for names
}

// plainParse: what Parse should answer.
func plainParse(text string) (api.Model, int, api.Errno) {
	tokens, at, e := lex.Lex(text)
	if e != api.OK {
		return api.Model{}, at, e
	}
	p := plain{toCome: []string{"item"}}
	for _, token := range append(tokens, lex.Token{At: len(text)}) {
		at, e := token.At, p.read(token)
		if e == api.OK {
			at, e = p.start.At, p.doAhead()
		}
		if e != api.OK {
			return api.Model{}, at, e
		}
	}
	return p.m, 0, api.OK
}

// come: what must come now, ahead of all else.
func (p *plain) come(symbols ...string) api.Errno {
	p.toCome = append(slices.Clone(symbols), p.toCome...)
	return api.OK
}

// doAhead: all that is to be done now.
func (p *plain) doAhead() api.Errno {
	for len(p.toCome) > 0 && strings.HasPrefix(p.toCome[0], "!") {
		do := p.toCome[0]
		p.toCome = p.toCome[1:]
		e := api.OK
		if do == "!constraint" {
			e = p.addConstraint()
		} else {
			e = p.addDomain(do)
		}
		if e != api.OK {
			return e
		}
	}
	return api.OK
}

// read a token as what must come.
func (p *plain) read(token lex.Token) api.Errno {
	symbol := p.toCome[0]
	p.toCome = p.toCome[1:]
	if list, ok := strings.CutPrefix(symbol, "list "); ok { // an element and the last sign
		element, last, _ := strings.Cut(list, " ")
		if token.Text == last {
			p.inside += last
			return api.OK
		}
		p.come(element, "more "+list)
		return p.read(token)
	}
	if list, ok := strings.CutPrefix(symbol, "more "); ok {
		element, last, _ := strings.Cut(list, " ")
		if token.Text == last {
			p.inside += last
			return api.OK
		}
		p.come(",", element, "more "+list)
		return p.read(token)
	}
	switch symbol {
	case "item":
		return p.readItem(token)
	case "domain":
		return p.readDomain(token)
	case "new":
		return p.readNew(token)
	case "kind":
		return p.readKind(token)
	case "goal":
		return p.readGoal(token)
	case "objective", "v":
		return p.readVariable(token, symbol == "objective")
	case "number":
		if token.Kind != lex.Number {
			return api.ErrSyntax
		}
		p.numbers = append(p.numbers, token.Num)
	case "row":
		p.come("list number ]")
		symbol = "["
		fallthrough
	default: // a sign, or the text's end
		if token.Text != symbol {
			return api.ErrSyntax
		}
	}
	p.inside += token.Text
	return api.OK
}

func (p *plain) readItem(token lex.Token) api.Errno {
	switch {
	case token.Text == "var" && len(p.m.Names) == 256:
		return api.ErrMany
	case token.Text == "constraint" && len(p.m.Cons) == 1024:
		return api.ErrMany
	case token.Text == "var":
		return p.come("domain", ":", "new", ";", "item")
	case token.Text == "constraint":
		return p.come("kind", ";", "item")
	case token.Text == "solve":
		return p.come("goal", ";", "")
	}
	return api.ErrSyntax
}

func (p *plain) readDomain(token lex.Token) api.Errno {
	p.start, p.numbers = token, nil
	if token.Text == "{" {
		return p.come("list number }", "!set")
	}
	p.come("number", "..", "number", "!range")
	return p.read(token)
}

// addDomain: all from a number to another, or some.
func (p *plain) addDomain(how string) api.Errno {
	l := p.numbers
	far := func(n int) bool { return n < -1000000 || n > 1000000 }
	switch {
	case len(l) == 0:
		return api.ErrEmpty
	case slices.ContainsFunc(l, far):
		return api.ErrRange
	case how == "!range" && l[0] > l[1]:
		return api.ErrEmpty
	case slices.Max(l)-slices.Min(l) > 65535:
		return api.ErrWide
	case how == "!range":
		l = rising(l[0], l[1])
	}
	slices.Sort(l)
	p.m.Doms = append(p.m.Doms, slices.Compact(l))
	return api.OK
}

func (p *plain) readNew(token lex.Token) api.Errno {
	name := token.Text
	switch {
	case token.Kind != lex.Word:
		return api.ErrSyntax
	case len(name) > 32 || name == "var" || name == "constraint" || name == "solve":
		return api.ErrName
	case slices.Contains(p.m.Names, name):
		return api.ErrTwice
	}
	p.m.Names = append(p.m.Names, name)
	return api.OK
}

func (p *plain) readVariable(token lex.Token, objective bool) api.Errno {
	if token.Kind != lex.Word {
		return api.ErrSyntax
	}
	place := slices.Index(p.m.Names, token.Text)
	if place < 0 {
		return api.ErrName
	}
	p.inside += strconv.Itoa(place)
	if objective {
		p.m.Obj = place
	}
	return api.OK
}

func (p *plain) readGoal(token lex.Token) api.Errno {
	switch token.Text {
	case "satisfy":
		return api.OK
	case "minimize":
		p.m.Goal = 1
		return p.come("objective")
	case "maximize":
		p.m.Goal = 2
		return p.come("objective")
	}
	return api.ErrSyntax
}

func (p *plain) readKind(token lex.Token) api.Errno {
	if token.Kind != lex.Word {
		return api.ErrSyntax
	}
	kind, ok := model.Kind(token.Text)
	if !ok {
		return api.ErrKind
	}
	p.start, p.inside = token, ""
	symbols := []string{"("}
	for _, letter := range model.Shape(kind) {
		switch letter {
		case 'v', 'w':
			symbols = append(symbols, "v")
		case 'V', 'W':
			symbols = append(symbols, "[", "list v ]")
		case 'c', 'd', 'e':
			symbols = append(symbols, "[", "list number ]")
		case 'r':
			symbols = append(symbols, "[", "list row ]")
		case 'k':
			symbols = append(symbols, "number")
		}
		symbols = append(symbols, ",")
	}
	symbols[len(symbols)-1] = ")"
	return p.come(append(symbols, "!constraint")...)
}

// addConstraint of what was read inside of it.
func (p *plain) addConstraint() api.Errno {
	inside := strings.TrimSuffix(strings.TrimPrefix(p.inside, "("), ")")
	var parts []json.RawMessage
	must(json.Unmarshal([]byte("["+inside+"]"), &parts))
	kind, _ := model.Kind(p.start.Text)
	c := api.Con{Kind: kind}
	for i, letter := range model.Shape(kind) {
		into := map[rune]any{'V': &c.A, 'W': &c.B, 'c': &c.C, 'd': &c.D, 'e': &c.E, 'k': &c.K, 'r': &c.Rows}[letter]
		var place int
		if letter == 'v' || letter == 'w' {
			into = &place
		}
		must(json.Unmarshal(parts[i], into))
		switch letter {
		case 'v':
			c.A = append(c.A, place)
		case 'w':
			c.B = append(c.B, place)
		}
	}
	if e := model.Right(c, len(p.m.Names)); e != api.OK {
		return e
	}
	p.m.Cons = append(p.m.Cons, c)
	return api.OK
}

// must: the plain reader isn't wrong itself.
func must(e error) {
	if e != nil {
		panic(e)
	}
}

// checkPlain holds Parse against the plain way, and tells the error.
func checkPlain(t *testing.T, text string) api.Errno {
	t.Helper()
	want, place, errno := plainParse(text)
	m, at, e := Parse(text)
	if at != place || e != errno {
		t.Fatalf("P7.1: %q: %d, %d; want %d, %d", text, at, e, place, errno)
	}
	if !model.Equal(m, want) {
		t.Fatalf("P7.1: %q: %v; want %v", text, m, want)
	}
	if _, wrong := model.Check(m); wrong != api.OK {
		t.Fatalf("P7.2: %q: %d", text, wrong)
	}
	return e
}

// partsOf a text: its tokens' texts.
func partsOf(t *testing.T, text string) []string {
	t.Helper()
	tokens, _, e := lex.Lex(text)
	if e != api.OK {
		t.Fatalf("%q: %d", text, e)
	}
	var parts []string
	for _, token := range tokens {
		parts = append(parts, token.Text)
	}
	return parts
}

// others that may stand in a token's place.
var others = []string{"var", "constraint", "solve", "satisfy", "minimize", "maximize", "x", "y", "b", "z", "none", "times", "abs", "circuit", "table", "lin_reif", "0", "1", "2", "-3", "1000001", "-1000001", "65536", "9999999999", "..", "(", ")", "[", "]", "{", "}", ",", ";", ":"}

func TestP7_1EachTokenCut(t *testing.T) {
	parts := partsOf(t, allKinds())
	for i := range parts {
		text := strings.Join(parts[:i], " ")
		checkFault(t, text, len(text), api.ErrSyntax)
		checkFault(t, text+" \n% x\n", len(text)+6, api.ErrSyntax)
	}
	checkPlain(t, strings.Join(parts, " "))
}

func TestP7_1EachTokenChanged(t *testing.T) {
	met := map[api.Errno]int{}
	for _, x := range kinds {
		parts := partsOf(t, threeVars+"constraint "+x.text+"; solve minimize b;")
		for i := range parts {
			met[checkPlain(t, strings.Join(slices.Delete(slices.Clone(parts), i, i+1), " "))]++
			for _, other := range others {
				changed := slices.Clone(parts)
				changed[i] = other
				met[checkPlain(t, strings.Join(changed, " "))]++
				met[checkPlain(t, strings.Join(slices.Insert(changed, i, parts[i]), " "))]++
			}
		}
	}
	checkMet(t, met)
}

// checkMet: are all errors met that a text can have by its tokens? Not
// ErrMany, which only long texts have.
func checkMet(t *testing.T, met map[api.Errno]int) {
	t.Helper()
	for _, e := range []api.Errno{api.OK, api.ErrRange, api.ErrEmpty, api.ErrWide, api.ErrSyntax, api.ErrName, api.ErrTwice, api.ErrKind, api.ErrArity, api.ErrCoef} {
		if met[e] == 0 {
			t.Errorf("P7.1: %d is never met", e)
		}
	}
}

func TestP7_1ShortTexts(t *testing.T) {
	for _, a := range others {
		checkPlain(t, a)
		for _, b := range others {
			checkPlain(t, a+" "+b)
			for _, c := range others {
				checkPlain(t, a+" "+b+"\n"+c)
				checkPlain(t, "var 1..2: x; "+a+" "+b+" "+c+";")
				checkPlain(t, "solve "+a+" "+b+" "+c)
			}
		}
	}
}

// drawer of numbers below n, the same ones for the same seed.
func drawer(seed uint32) func(n int) int {
	return func(n int) int {
		seed = seed*1664525 + 1013904223
		return int(uint64(seed) * uint64(n) >> 32)
	}
}

// drawnList of so many elements, written.
func drawnList(n int, element func() string) string {
	var l []string
	for range n {
		l = append(l, element())
	}
	return "[" + strings.Join(l, ",") + "]"
}

// drawnText: items that are mostly right.
func drawnText(draw func(n int) int) string {
	text, vars := "", 0
	name := func() string { return "x" + strconv.Itoa(draw(vars)) }
	number := func() string { return strconv.Itoa(draw(9) - 1) }
	for range draw(12) {
		if vars == 0 || draw(3) == 0 {
			low := draw(50) - 25
			text += "var " + strconv.Itoa(low) + ".." + strconv.Itoa(low+draw(9)) + ": x" + strconv.Itoa(vars) + ";\n"
			if draw(2) == 0 {
				set := drawnList(1+draw(4), number)
				text += "var {" + set[1:len(set)-1] + "}: y" + strconv.Itoa(vars) + ";\n"
			}
			vars++
			continue
		}
		word, _ := model.Word(1 + draw(23))
		kind, _ := model.Kind(word)
		n := 1 + draw(3)
		var parts []string
		for _, letter := range model.Shape(kind) {
			switch letter {
			case 'v', 'w':
				parts = append(parts, name())
			case 'V', 'W':
				parts = append(parts, drawnList(n, name))
			case 'c', 'd', 'e':
				parts = append(parts, drawnList(n, number))
			case 'k':
				parts = append(parts, number())
			case 'r':
				parts = append(parts, drawnList(1+draw(3), func() string { return drawnList(n, number) }))
			}
		}
		text += "constraint " + word + "(" + strings.Join(parts, ",") + ");\n"
	}
	if vars == 0 || draw(2) == 0 {
		return text + "solve satisfy;"
	}
	return text + []string{"solve minimize ", "solve maximize "}[draw(2)] + name() + ";"
}

// gaps that may stand between tokens.
var gaps = []string{" ", " ", "\n", "\t", "\r\n", " % ; x\n", "%\xff\n"}

func TestP7_1DrawnTexts(t *testing.T) {
	met := map[api.Errno]int{}
	for seed := range uint32(4000) {
		draw := drawer(seed)
		whole := drawnText(draw)
		met[checkPlain(t, whole)]++
		parts := partsOf(t, whole)
		for range 1 + draw(3) {
			i, other := draw(len(parts)), others[draw(len(others))]
			switch draw(4) {
			case 0:
				parts[i] = other
			case 1:
				parts = slices.Insert(parts, i, other)
			case 2:
				parts[i] = parts[draw(len(parts))]
			default:
				if len(parts) > 1 {
					parts = slices.Delete(parts, i, i+1)
				}
			}
		}
		text := gaps[draw(len(gaps))]
		for _, part := range parts {
			text += part + gaps[draw(len(gaps))]
		}
		met[checkPlain(t, text)]++
	}
	checkMet(t, met)
	if met[api.OK] < 2000 {
		t.Errorf("P7.1: only %d drawn texts are right", met[api.OK])
	}
}

func TestP7_2DrawnTexts(t *testing.T) {
	parsed := 0
	for seed := range uint32(3000) {
		m, _, e := Parse(drawnText(drawer(seed)))
		if place, wrong := model.Check(m); place != -1 || wrong != api.OK {
			t.Errorf("P7.2: seed %d: %v: %d, %d", seed, m, place, wrong)
		}
		if e == api.OK && len(m.Cons) > 0 {
			parsed++
		}
	}
	if parsed < 1000 {
		t.Errorf("P7.2: only %d texts with constraints are parsed", parsed)
	}
}

func TestP7_1DrawnBytes(t *testing.T) {
	bytes := allKinds() + " \n\t?%._-\x00\xff\xc3é0123456789"
	for seed := range uint32(2000) {
		draw := drawer(seed)
		text := []byte(drawnText(draw))
		for range 1 + draw(3) {
			text[draw(len(text))] = bytes[draw(len(bytes))]
		}
		checkPlain(t, string(text))
	}
}
