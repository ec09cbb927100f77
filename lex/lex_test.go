package lex

import (
	"math/big"
	"regexp"
	"slices"
	"strings"
	"testing"

	"jigsaw/api"
)

// checkLex holds all that Lex tells of a text against what it should.
func checkLex(t *testing.T, promise, text string, at int, e api.Errno, want ...Token) {
	t.Helper()
	got, place, errno := Lex(text)
	if !slices.Equal(got, want) || place != at || errno != e {
		t.Errorf("%s: %.60q: %v, %d, %d; want %v, %d, %d", promise, text, got, place, errno, want, at, e)
	}
}

// checkTokens of a text with nothing wrong.
func checkTokens(t *testing.T, text string, want ...Token) {
	t.Helper()
	checkLex(t, "P5.1", text, 0, api.OK, want...)
}

// checkWrong: a text has something wrong, and nothing is told beside it.
func checkWrong(t *testing.T, text string, at int, e api.Errno) {
	t.Helper()
	checkLex(t, "P5.1", text, at, e)
}

func TestP5_1Kinds(t *testing.T) {
	if Word != 1 || Number != 2 || Sign != 3 {
		t.Errorf("P5.1: the kinds are %d, %d, %d", Word, Number, Sign)
	}
}

func TestP5_1Examples(t *testing.T) {
	checkTokens(t, "var 1..-5% x", Token{Word, "var", 0, 0}, Token{Number, "1", 1, 4}, Token{Sign, "..", 0, 5}, Token{Number, "-5", -5, 7})
	checkWrong(t, "01", 0, api.ErrNumber)
	checkWrong(t, "a.b", 1, api.ErrSyntax)
}

func TestP5_1NoTokens(t *testing.T) {
	for _, text := range []string{"", " ", "\t", "\n", "\r", " \t\r\n", "%", "%%", "% x", "%\n", "%\n%", "\n%a\n %b\r\n\t", "%\x00\xff\xc3", "% a.b 01 _"} {
		checkTokens(t, text)
	}
}

func TestP5_1Words(t *testing.T) {
	for _, text := range []string{"a", "z", "A", "Z", "x_", "x__1", "aZ09_zA", "X9", "lin_eq", strings.Repeat("w", 1000)} {
		checkTokens(t, text, Token{Word, text, 0, 0})
		checkTokens(t, " "+text+";", Token{Word, text, 0, 1}, Token{Sign, ";", 0, 1 + len(text)})
	}
	checkTokens(t, "12ab", Token{Number, "12", 12, 0}, Token{Word, "ab", 0, 2})
	checkTokens(t, "a-1", Token{Word, "a", 0, 0}, Token{Number, "-1", -1, 1})
	checkTokens(t, "a1-1", Token{Word, "a1", 0, 0}, Token{Number, "-1", -1, 2})
	checkTokens(t, "a b\nc", Token{Word, "a", 0, 0}, Token{Word, "b", 0, 2}, Token{Word, "c", 0, 4})
	checkWrong(t, "_", 0, api.ErrSyntax)
	checkWrong(t, "_a", 0, api.ErrSyntax)
	checkWrong(t, "a _", 2, api.ErrSyntax)
	checkWrong(t, "1_", 1, api.ErrSyntax)
}

func TestP5_1Numbers(t *testing.T) {
	for text, value := range map[string]int{"0": 0, "1": 1, "9": 9, "-1": -1, "-9": -9, "10": 10, "-10": -10, "100": 100, "4096": 4096, "2147483648": 1 << 31, "-2147483649": -1<<31 - 1, "4294967296": 1 << 32, "1000000000": 1000000000, "9999999999": 9999999999, "-9999999999": -9999999999} {
		checkTokens(t, text, Token{Number, text, value, 0})
		checkTokens(t, "x "+text+",", Token{Word, "x", 0, 0}, Token{Number, text, value, 2}, Token{Sign, ",", 0, 2 + len(text)})
	}
	checkTokens(t, "1-2", Token{Number, "1", 1, 0}, Token{Number, "-2", -2, 1})
	checkTokens(t, "0-1", Token{Number, "0", 0, 0}, Token{Number, "-1", -1, 1})
	checkTokens(t, "0a", Token{Number, "0", 0, 0}, Token{Word, "a", 0, 1})
	checkTokens(t, "0 1", Token{Number, "0", 0, 0}, Token{Number, "1", 1, 2})
	checkTokens(t, "0..0", Token{Number, "0", 0, 0}, Token{Sign, "..", 0, 1}, Token{Number, "0", 0, 3})
}

func TestP5_1WrongNumbers(t *testing.T) {
	for _, text := range []string{"00", "01", "007", "-0", "-00", "-01", "10000000000", "-10000000000", "12345678901", "99999999999", "0000000000", "00000000000", "-00000000001", "18446744073709551617", strings.Repeat("9", 100000)} {
		checkWrong(t, text, 0, api.ErrNumber)
		checkWrong(t, "x["+text, 2, api.ErrNumber)
		checkWrong(t, "% \xff\n  "+text+"a _", 6, api.ErrNumber)
	}
	checkWrong(t, "1-0", 1, api.ErrNumber)
	checkWrong(t, "-0..1", 0, api.ErrNumber)
	checkWrong(t, "-0x", 0, api.ErrNumber)
}

func TestP5_1Minus(t *testing.T) {
	for _, behind := range []string{"", " 1", "x", "-", "-1", ".", "..", "%\n1", "\n1", "_", "\xb2", "é"} {
		checkWrong(t, "-"+behind, 0, api.ErrSyntax)
		checkWrong(t, "1 -"+behind, 2, api.ErrSyntax)
	}
	checkWrong(t, "+1", 0, api.ErrSyntax)
}

func TestP5_1Signs(t *testing.T) {
	for _, text := range []string{"(", ")", "[", "]", "{", "}", ",", ";", ":", ".."} {
		n := len(text)
		checkTokens(t, text, Token{Sign, text, 0, 0})
		checkTokens(t, text+text, Token{Sign, text, 0, 0}, Token{Sign, text, 0, n})
		checkTokens(t, "a"+text+"1", Token{Word, "a", 0, 0}, Token{Sign, text, 0, 1}, Token{Number, "1", 1, 1 + n})
	}
}

func TestP5_1FullStops(t *testing.T) {
	checkWrong(t, ".", 0, api.ErrSyntax)
	checkWrong(t, ". .", 0, api.ErrSyntax)
	checkWrong(t, "...", 2, api.ErrSyntax)
	checkWrong(t, "1.2", 1, api.ErrSyntax)
	checkWrong(t, ".%\n.", 0, api.ErrSyntax)
	checkTokens(t, "....", Token{Sign, "..", 0, 0}, Token{Sign, "..", 0, 2})
}

func TestP5_1Comments(t *testing.T) {
	checkTokens(t, "a%b\nc", Token{Word, "a", 0, 0}, Token{Word, "c", 0, 4})
	checkTokens(t, "a% % b\n%\n%c\nd%e", Token{Word, "a", 0, 0}, Token{Word, "d", 0, 12})
	checkTokens(t, "a%\nb%\nc", Token{Word, "a", 0, 0}, Token{Word, "b", 0, 3}, Token{Word, "c", 0, 6})
	checkTokens(t, "1%\r2\n3", Token{Number, "1", 1, 0}, Token{Number, "3", 3, 5})
	// A line feed ends one, also behind bytes that are no whole rune; nothing
	// else does, not even what ends lines elsewhere.
	for _, inside := range []string{"é", "\xff", "\xc3", "\xe2\x82", "\xf0\x9f\x98", "\x00", "\r", "\v", "\f", "\u0085", "\u2028", "\ufffd"} {
		checkTokens(t, "%"+inside+"x\n;", Token{Sign, ";", 0, len(inside) + 3})
		checkTokens(t, "%x"+inside+"\n;", Token{Sign, ";", 0, len(inside) + 3})
	}
}

// noTokens are runes, and bytes that are none, that look like what may be.
var noTokens = []string{"é", "ß", "Ａ", "\u017f", "\u212a", "\u0663", "\u00b2", "１", "\u00a0", "\u0085", "\u2028", "\u3000", "\ufeff", "\ufffd", "\u2025", "（", "；", "\u2212", "\U0001d400", "\u0141", "\u0130", "\u0120", "\u0125", "\x00", "\v", "\f", "\x7f", "\x80", "\xa0", "\xc3", "\xe2\x82", "\xff", "=", "!", "\"", "#", "$", "&", "'", "*", "+", "/", "<", ">", "?", "@", "\\", "^", "`", "|", "~"}

func TestP5_1NoTokenBegins(t *testing.T) {
	for _, text := range noTokens {
		checkWrong(t, text, 0, api.ErrSyntax)
		checkWrong(t, "x"+text+"y", 1, api.ErrSyntax)
		checkWrong(t, "12"+text+"3", 2, api.ErrSyntax)
		checkWrong(t, " \n"+text+" ", 2, api.ErrSyntax)
		checkWrong(t, "%é\n;"+text+" ", 5, api.ErrSyntax)
	}
}

func TestP5_1FirstFault(t *testing.T) {
	checkWrong(t, "a 01 _", 2, api.ErrNumber)
	checkWrong(t, "a _ 01", 2, api.ErrSyntax)
	checkWrong(t, "% 01 _\n. 01", 7, api.ErrSyntax)
	checkWrong(t, "-0 01", 0, api.ErrNumber)
}

func TestP5_1Long(t *testing.T) {
	for _, text := range []string{"x", "1", "_", " ", "%", "(", "\xff"} {
		for _, more := range []int{1, 2, 1000} {
			checkWrong(t, strings.Repeat(text, api.MaxText+more), api.MaxText, api.ErrLong)
		}
	}
	checkWrong(t, "01"+strings.Repeat(" ", api.MaxText-1), api.MaxText, api.ErrLong)
}

func TestP5_1AsLongAsMayBe(t *testing.T) {
	const n = api.MaxText
	x := strings.Repeat("x", n)
	checkTokens(t, x, Token{Word, x, 0, 0})
	checkTokens(t, strings.Repeat(" ", n))
	checkTokens(t, strings.Repeat("%", n))
	checkTokens(t, strings.Repeat("\n", n-1)+"1", Token{Number, "1", 1, n - 1})
	checkTokens(t, "%"+strings.Repeat("é", n/2-1)+"\n")
	checkWrong(t, strings.Repeat(" ", n-1)+"_", n-1, api.ErrSyntax)
	checkWrong(t, strings.Repeat("%\n", n/2-1)+"01", n-2, api.ErrNumber)
	checkWrong(t, strings.Repeat("9", n), 0, api.ErrNumber)
	checkWrong(t, "-"+strings.Repeat("0", n-1), 0, api.ErrNumber)
	checkWrong(t, strings.Repeat("\xff", n), 0, api.ErrSyntax)
}

// As many tokens as there can be are told in time: none is found by looking at
// all that is behind it.
func TestP5_1ManyTokens(t *testing.T) {
	for _, part := range []string{"(", "..", "a ", "1,", "-1", "%\n;x"} {
		text := strings.Repeat(part, api.MaxText/len(part))
		got, at, e := Lex(text)
		_, want := plainLex(part)
		if len(got) != len(want)*(api.MaxText/len(part)) || at != 0 || e != api.OK {
			t.Fatalf("P5.1: of many %q: %d tokens, %d, %d", part, len(got), at, e)
		}
		for i, token := range got {
			w := want[i%len(want)]
			w.At += i / len(want) * len(part)
			if token != w {
				t.Fatalf("P5.1: of many %q: token %d: %v; want %v", part, i, token, w)
			}
		}
	}
}

// The forms of what a text has, told by their bytes.
var (
	plainGap    = regexp.MustCompile(`^(?:[ \t\n\r]|%[^\n]*)+`)
	plainWord   = regexp.MustCompile(`^[a-zA-Z][a-zA-Z0-9_]*`)
	plainNumber = regexp.MustCompile(`^-?[0-9]+`)
	plainRight  = regexp.MustCompile(`^(?:0|-?[1-9][0-9]{0,9})$`)
	plainSign   = regexp.MustCompile(`^(?:[][(){},;:]|\.\.)`)
)

// fault of a text: its place and error; OK of none.
type fault struct {
	at int
	e  api.Errno
}

// plainLex tells tokens by the forms alone.
func plainLex(text string) (fault, []Token) {
	var l []Token
	at := 0
	for {
		rest := text[at:]
		if s := plainGap.FindString(rest); s != "" {
			at += len(s)
			continue
		}
		if rest == "" {
			return fault{}, l
		}
		token := Token{At: at}
		if s := plainWord.FindString(rest); s != "" {
			token.Kind, token.Text = Word, s
		} else if s := plainNumber.FindString(rest); s != "" {
			if !plainRight.MatchString(s) {
				return fault{at, api.ErrNumber}, nil
			}
			value, _ := new(big.Int).SetString(s, 10)
			token.Kind, token.Text, token.Num = Number, s, int(value.Int64())
		} else if s := plainSign.FindString(rest); s != "" {
			token.Kind, token.Text = Sign, s
		} else {
			return fault{at, api.ErrSyntax}, nil
		}
		l = append(l, token)
		at += len(token.Text)
	}
}

// checkPlain holds Lex against plainLex.
func checkPlain(t *testing.T, text string) {
	t.Helper()
	f, want := plainLex(text)
	checkLex(t, "P5.1", text, f.at, f.e, want...)
}

func TestP5_1AllBytes(t *testing.T) {
	for a := range 256 {
		checkPlain(t, string([]byte{byte(a)}))
		for b := range 256 {
			checkPlain(t, string([]byte{byte(a), byte(b)}))
		}
	}
}

// eachText of so many of the parts, one behind the other.
func eachText(parts []string, n int, tell func(text string)) {
	if n == 0 {
		tell("")
		return
	}
	eachText(parts, n-1, func(text string) {
		for _, part := range parts {
			tell(text + part)
		}
	})
}

func TestP5_1ShortTexts(t *testing.T) {
	parts := []string{"a", "_", "0", "7", "-", ".", "(", "%", "\n", " ", "é", "\xc3"}
	for n := range 5 {
		eachText(parts, n, func(text string) { checkPlain(t, text) })
	}
}

// drawer of numbers below n, the same ones for the same seed.
func drawer(seed uint32) func(n int) int {
	return func(n int) int {
		seed = seed*1664525 + 1013904223
		return int(uint64(seed) * uint64(n) >> 32)
	}
}

// right parts of texts: no text of these has anything wrong, but for numbers
// that stand together.
var right = []string{"var", "x", "Y_2", "0", "5", "-12", "9999999999", "..", "(", ")", "[", "]", "{", "}", ",", ";", ":", " ", "\t", "\r\n", "%é x\n", "%\xff01\n"}

func TestP5_1LongerTexts(t *testing.T) {
	wrong := append([]string{"-", ".", "00", "_", "%"}, noTokens...)
	for seed := range uint32(3000) {
		draw := drawer(seed)
		text := ""
		for range draw(40) {
			if draw(40) == 0 {
				text += wrong[draw(len(wrong))]
			}
			text += right[draw(len(right))]
		}
		checkPlain(t, text)
	}
}

func TestP5_1AnswersApart(t *testing.T) {
	a, _, _ := Lex("x 1 ;")
	b, _, _ := Lex("x 1 ;")
	a[0].Text, a[1].Num, a[2] = "y", 7, Token{}
	_ = append(a[:1], Token{}, Token{})
	if b[0] != (Token{Word, "x", 0, 0}) || b[1] != (Token{Number, "1", 1, 2}) || b[2] != (Token{Sign, ";", 0, 4}) {
		t.Errorf("rule 4: %v", b)
	}
	checkTokens(t, "x 1 ;", b...)
}

func TestP5_2Names(t *testing.T) {
	for _, s := range []string{"x", "X", "a", "z", "A", "Z", "Xy_9", "x_", "x__", "a0", "var", "constraint", "solve", strings.Repeat("a", api.MaxName-1), strings.Repeat("a", api.MaxName), "q" + strings.Repeat("_", api.MaxName-1)} {
		if !Name(s) {
			t.Errorf("P5.2: %q is no name", s)
		}
	}
}

func TestP5_2NoNames(t *testing.T) {
	for _, s := range []string{"", "_", "_x", "9", "9x", "-x", "x-y", "x y", " x", "x ", "x\n", "x\r", "x%", "%x", "x%y\n", "x.", "..", "x..y", "x;", "(", "1", "-1", "xé", "éx", "x\xff", "\xff", "x\x00", "x\u0663", "\u212a", strings.Repeat("a", api.MaxName+1), strings.Repeat("é", api.MaxName/2), strings.Repeat("a", api.MaxName) + " ", strings.Repeat("a", api.MaxText), strings.Repeat("a", api.MaxText+1)} {
		if Name(s) {
			t.Errorf("P5.2: %.60q is a name", s)
		}
	}
	for _, s := range noTokens {
		if Name(s) || Name("x"+s) || Name(s+"x") || Name("x"+s+"x") {
			t.Errorf("P5.2: with %q in it one is a name", s)
		}
	}
}

func TestP5_2AllBytes(t *testing.T) {
	for a := range 256 {
		for b := range 256 {
			for _, s := range []string{string([]byte{byte(a)}), string([]byte{byte(a), byte(b)})} {
				if want := plainWord.FindString(s) == s && s != ""; Name(s) != want {
					t.Errorf("P5.2: %q: %v; want %v", s, !want, want)
				}
			}
		}
	}
}

// told: a list's tokens, without their places.
func told(l []Token) []Token {
	l = slices.Clone(l)
	for i := range l {
		l[i].At = 0
	}
	return l
}

// joined: the texts of a list's tokens, with something between them.
func joined(l []Token, between string) string {
	var texts []string
	for _, token := range l {
		texts = append(texts, token.Text)
	}
	return strings.Join(texts, between)
}

func TestP5_3ToldAgain(t *testing.T) {
	lists := 0
	for seed := range uint32(1000) {
		draw := drawer(seed)
		text := ""
		for range draw(30) {
			text += right[draw(len(right))]
		}
		l, _, e := Lex(text)
		if e != api.OK {
			continue
		}
		lists++
		for _, between := range []string{" ", "\t", "\n", "\r", "\r\n \t", " % x 01\xff\n"} {
			again, at, e := Lex(joined(l, between))
			if !slices.Equal(told(again), told(l)) || at != 0 || e != api.OK {
				t.Fatalf("P5.3: %q, joined by %q: %v, %d, %d; want %v", text, between, again, at, e, l)
			}
		}
	}
	if lists < 500 {
		t.Errorf("P5.3: only %d lists were told again", lists)
	}
}

func TestP5_3EachPair(t *testing.T) {
	texts := []string{"a", "a1_", "0", "1", "-1", "9999999999", "-9999999999", "..", "(", ")", "[", "]", "{", "}", ",", ";", ":"}
	for _, a := range texts {
		for _, b := range texts {
			l, at, e := Lex(a + " " + b)
			if len(l) != 2 || at != 0 || e != api.OK {
				t.Fatalf("P5.3: %q, %q: %v, %d, %d", a, b, l, at, e)
			}
			if l[0].Text != a || l[0].At != 0 || l[1].Text != b || l[1].At != len(a)+1 {
				t.Errorf("P5.3: %q, %q: %v", a, b, l)
			}
		}
	}
}
