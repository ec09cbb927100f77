package parse

import (
	"jigsaw/api"
	"jigsaw/lex"
)

// parser of a text.
type parser struct {
	tokens []lex.Token    // that aren't read yet
	end    int            // the text's length: the place of a token that is wanting
	places map[string]int // of the variables that were read, by their names
	m      api.Model      // that was read
}

// fault: what is wrong with a text, and where. It is thrown.
type fault struct {
	at int
	e  api.Errno
}

// throw what is wrong at a token.
func throw(at lex.Token, e api.Errno) {
	panic(fault{at.At, e})
}

// ahead: the next token, which isn't read by that. Behind the last one that
// is a token of no kind and no text.
func (p *parser) ahead() lex.Token {
	if len(p.tokens) == 0 {
		return lex.Token{At: p.end}
	}
	return p.tokens[0]
}

// take the next token, which must be of a kind.
func (p *parser) take(kind int) lex.Token {
	token := p.ahead()
	if token.Kind != kind {
		throw(token, api.ErrSyntax)
	}
	p.tokens = p.tokens[1:]
	return token
}

// found: is the next token this sign? Then it is read.
func (p *parser) found(sign string) bool {
	if p.ahead().Text != sign {
		return false
	}
	p.tokens = p.tokens[1:]
	return true
}

// want a sign: it must be the next token.
func (p *parser) want(sign string) {
	if !p.found(sign) {
		throw(p.ahead(), api.ErrSyntax)
	}
}

// nothing: the text must end here.
func (p *parser) nothing() {
	if len(p.tokens) > 0 {
		throw(p.ahead(), api.ErrSyntax)
	}
}

// list of elements between two signs.
func (p *parser) list(first, last string, element func() any) []any {
	p.want(first)
	if p.found(last) {
		return nil
	}
	l := []any{element()}
	for !p.found(last) {
		p.want(",")
		l = append(l, element())
	}
	return l
}

// number, as a list's element.
func (p *parser) number() any { return p.take(lex.Number).Num }

// variable, as a list's element.
func (p *parser) variable() any { return p.place() }

// row of numbers, as a list's element.
func (p *parser) row() any { return ints(p.list("[", "]", p.number)) }

// place of the variable whose name is the next token.
func (p *parser) place() int {
	word := p.take(lex.Word)
	place, ok := p.places[word.Text]
	if !ok {
		throw(word, api.ErrName)
	}
	return place
}

// ints: what a list has, if its elements are numbers or variables.
func ints(l []any) []int {
	all := make([]int, 0, len(l))
	for _, element := range l {
		all = append(all, element.(int))
	}
	return all
}

// rows: what a list has, if its elements are rows.
func rows(l []any) [][]int {
	all := make([][]int, 0, len(l))
	for _, element := range l {
		all = append(all, element.([]int))
	}
	return all
}
