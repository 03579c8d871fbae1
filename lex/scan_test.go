package lex

import (
	"slices"
	"strings"
	"testing"

	"whittle/api"
)

func number(at int, s string) api.Token { return api.Token{Kind: api.TokNumber, Text: s, At: at} }
func text(at int, s string) api.Token   { return api.Token{Kind: api.TokText, Text: s, At: at} }
func word(at int, s string) api.Token   { return api.Token{Kind: api.TokWord, Text: s, At: at} }
func fault(at int, s string) api.Token  { return api.Token{Kind: api.TokFault, Text: s, At: at} }
func mark(at int, s string) api.Token   { return api.Token{Kind: api.TokMark, Text: s, At: at} }

// told holds that s is taken, and of which tokens it is.
func told(t *testing.T, s string, want ...api.Token) {
	t.Helper()
	if l, code, at := Scan(s); !slices.Equal(l, want) || code != api.OK || at != 0 {
		t.Fatalf("Scan of %q is %#v, %d, %d", s, l, code, at)
	}
}

// refused holds that s is refused, why and where.
func refused(t *testing.T, s string, why api.Errno, where int) {
	t.Helper()
	if l, code, at := Scan(s); len(l) != 0 || code != why || at != where {
		t.Fatalf("Scan of %q is %#v, %d, %d", s, l, code, at)
	}
}

func faultNames() []string {
	return []string{"#DIV/0!", "#VALUE!", "#REF!", "#NUM!", "#N/A", "#CIRCLE!", "#LONG!", "#ARG!"}
}

const oneMarks = "+-*/^&%(),:!=<>"

// Promise 4.1: numbers.
func TestNumbers(t *testing.T) {
	for _, s := range []string{"0", "7", "12", "0123456789", "007", "000", "0.5", "00.50", "1.0", "12.345", "9.9", "0.000", "1000000000001", "1.23456789", strings.Repeat("9", api.MaxContent), strings.Repeat("9", 500) + "." + strings.Repeat("0", 523)} {
		told(t, s, number(0, s))
	}
	told(t, "1 2", number(0, "1"), number(2, "2"))
	told(t, "12a", number(0, "12"), word(2, "a"))
	told(t, "1.5a", number(0, "1.5"), word(3, "a"))
	told(t, "1e5", number(0, "1"), word(1, "e5"))
	told(t, "1$2", number(0, "1"), word(1, "$2"))
	told(t, "-1.5", mark(0, "-"), number(1, "1.5"))
	told(t, "1/2", number(0, "1"), mark(1, "/"), number(2, "2"))
	told(t, "1,5", number(0, "1"), mark(1, ","), number(2, "5"))
	told(t, `1"2"3`, number(0, "1"), text(1, "2"), number(4, "3"))
	told(t, "1#N/A2", number(0, "1"), fault(1, "#N/A"), number(5, "2"))
}

// Promises 4.1, 4.2: a point that is none of a number's.
func TestPoints(t *testing.T) {
	for s, where := range map[string]int{".": 0, "..": 0, ".5": 0, " .5": 1, "1.": 1, "12.": 2, "1.+2": 1, "1. 5": 1, "1 .5": 2, "1..5": 1, "1.5.": 3, "1.5.5": 3, "1.2.3.4": 3, "007.": 3, "1.a": 1, "A.1": 1, "A1.5": 2, "1.$": 1, `1."5"`: 1, `"1".5`: 3, "#N/A.5": 4, "+.5": 1, "1.\xd9\xa1": 1, "1.\x00": 1} {
		refused(t, s, api.ErrByte, where)
	}
}

// Promise 4.1: texts, and what they say.
func TestTexts(t *testing.T) {
	for s, want := range map[string]string{
		`""`: "", `"a"`: "a", `" "`: " ", `"  a  b  "`: "  a  b  ", `"abc"`: "abc", `"1.5"`: "1.5", `"A1+_.{}"`: "A1+_.{}", `"#N/B"`: "#N/B", `"'"`: "'", `"\n"`: `\n`, `"~"`: "~",
		`""""`: `"`, `""""""`: `""`, `"""a"`: `"a`, `"a"""`: `a"`, `"a""b"`: `a"b`, `"""a"""`: `"a"`, `"""a""b"""`: `"a"b"`, `"a""""b"`: `a""b`, `""" """`: `" "`, `"a"""""`: `a""`, `"""""a"`: `""a`,
	} {
		told(t, s, text(0, want))
		told(t, s+" "+s, text(0, want), text(len(s)+1, want))
		told(t, "A"+s+"1", word(0, "A"), text(1, want), number(len(s)+1, "1"))
	}
	told(t, `"a" "b"`, text(0, "a"), text(4, "b"))
	told(t, `"" ""`, text(0, ""), text(3, ""))
	told(t, `"a"&"b"`, text(0, "a"), mark(3, "&"), text(4, "b"))
}

// Promise 4.2: a text without an end is told at its first quote, whatever else is in it.
func TestQuotes(t *testing.T) {
	for s, where := range map[string]int{`"`: 0, `"a`: 0, `"""`: 0, `"a""`: 0, `"""a`: 0, `"""""`: 0, `"a""b`: 0, ` "`: 1, `"a" "`: 4, `"a" """`: 4, `A1 "a""`: 3, `1+"`: 2, `#N/A"`: 4, `"a""""`: 0, `"" "a`: 3, `"_.#`: 0} {
		refused(t, s, api.ErrQuote, where)
	}
	refused(t, "\"a\tb", api.ErrQuote, 0)
	refused(t, "\"\xff\"\"", api.ErrQuote, 0)
	refused(t, `"ab _`, api.ErrQuote, 0)
}

// Promise 4.2: which of two faults of a text comes first.
func TestFirstFromTheLeft(t *testing.T) {
	refused(t, `_"`, api.ErrByte, 0)
	refused(t, `"a" _ "`, api.ErrByte, 4)
	refused(t, `"a" " _`, api.ErrQuote, 4)
	refused(t, "\"a\n\" \"", api.ErrByte, 2)
	refused(t, "\"a\nb\x00\"", api.ErrByte, 2)
	refused(t, "\"a\"\"\n\" _", api.ErrByte, 4)
	refused(t, "\"a\" \"\n\"", api.ErrByte, 5)
	refused(t, "\"a\" _ \"\n\"", api.ErrByte, 4)
	refused(t, "1._", api.ErrByte, 1)
	refused(t, "#_", api.ErrByte, 0)
}

// Promise 4.1: words.
func TestWords(t *testing.T) {
	for _, s := range []string{"A", "Z", "a", "z", "$", "$$", "A1", "$A1", "A$1", "$A$1", "A1$", "$1", "a1$Z9", "$$$A", "SUM", "sum", "TRUE", "x9y8", "ABCDEFGHIJKLMNOPQRSTUVWXYZ", "abcdefghijklmnopqrstuvwxyz", "A0123456789", "e5", strings.Repeat("$", api.MaxContent)} {
		told(t, s, word(0, s))
		if len(s) < 100 {
			told(t, s+" "+s, word(0, s), word(len(s)+1, s))
			told(t, "("+s+")", mark(0, "("), word(1, s), mark(len(s)+1, ")"))
			told(t, "1"+`""`+s+`""`, number(0, "1"), text(1, ""), word(3, s), text(3+len(s), ""))
		}
	}
	told(t, "A1:B2", word(0, "A1"), mark(2, ":"), word(3, "B2"))
	told(t, "T!$C$3", word(0, "T"), mark(1, "!"), word(2, "$C$3"))
	told(t, "A1#REF!", word(0, "A1"), fault(2, "#REF!"))
}

// Promise 4.1: faults, alone and beside all else.
func TestFaults(t *testing.T) {
	for _, s := range faultNames() {
		n := len(s)
		told(t, s, fault(0, s))
		told(t, "  "+s+"  ", fault(2, s))
		told(t, s+"!", fault(0, s), mark(n, "!"))
		told(t, s+"A", fault(0, s), word(n, "A"))
		told(t, s+"0", fault(0, s), number(n, "0"))
		told(t, s+`""`, fault(0, s), text(n, ""))
		told(t, "A"+s, word(0, "A"), fault(1, s))
		told(t, `"`+s+`"`, text(0, s))
		refused(t, s+"#", api.ErrByte, n)
		refused(t, s+"_", api.ErrByte, n)
		for _, other := range faultNames() {
			told(t, s+other, fault(0, s), fault(n, other))
		}
	}
}

// Promise 4.2: what is nearly a fault.
func TestNoFaults(t *testing.T) {
	for _, s := range faultNames() {
		for i := 1; i < len(s); i++ {
			refused(t, s[:i], api.ErrByte, 0)
			refused(t, "1 "+s[:i], api.ErrByte, 2)
			refused(t, s[:i]+s[i+1:], api.ErrByte, 0)
			refused(t, s[:i]+" "+s[i:], api.ErrByte, 0)
			refused(t, s[:i]+"_"+s[i+1:], api.ErrByte, 0)
		}
		refused(t, strings.ToLower(s), api.ErrByte, 0)
		refused(t, "#"+s, api.ErrByte, 0)
	}
	for _, s := range []string{"#", "##", "# N/A", "#n/a", "#N/B", "#NULL!", "#NAME?", "#BUSY!", "#TRUE", "#1", "#\"\"", "#\x00"} {
		refused(t, s, api.ErrByte, 0)
	}
}

// Promise 4.1: marks, each by itself and beside each other one.
func TestMarks(t *testing.T) {
	for _, a := range strings.Split(oneMarks, "") {
		told(t, a, mark(0, a))
		told(t, "A"+a+"1", word(0, "A"), mark(1, a), number(2, "1"))
		for _, b := range strings.Split(oneMarks, "") {
			if two := a + b; two == "<>" || two == "<=" || two == ">=" {
				told(t, two, mark(0, two))
			} else {
				told(t, two, mark(0, a), mark(1, b))
			}
			told(t, a+" "+b, mark(0, a), mark(2, b))
		}
	}
}

func TestMarksOfTwo(t *testing.T) {
	told(t, "><", mark(0, ">"), mark(1, "<"))
	told(t, "=<", mark(0, "="), mark(1, "<"))
	told(t, "=>", mark(0, "="), mark(1, ">"))
	told(t, "==", mark(0, "="), mark(1, "="))
	told(t, "<<=", mark(0, "<"), mark(1, "<="))
	told(t, "<>=", mark(0, "<>"), mark(2, "="))
	told(t, "<=>", mark(0, "<="), mark(2, ">"))
	told(t, ">>=", mark(0, ">"), mark(1, ">="))
	told(t, ">=>=", mark(0, ">="), mark(2, ">="))
	told(t, "<><>", mark(0, "<>"), mark(2, "<>"))
}

// Promise 4.1: blanks.
func TestBlanks(t *testing.T) {
	told(t, "")
	told(t, " ")
	told(t, strings.Repeat(" ", api.MaxContent))
	told(t, "   A1", word(3, "A1"))
	told(t, "A1   ", word(0, "A1"))
	told(t, " A 1 ", word(1, "A"), number(3, "1"))
	told(t, "  A1   +  2.5  \" \"  ", word(2, "A1"), mark(7, "+"), number(10, "2.5"), text(15, " "))
	refused(t, "1\t2", api.ErrByte, 1)
	refused(t, "1\n", api.ErrByte, 1)
	refused(t, "\u00a01", api.ErrByte, 0)
	refused(t, "1 \u2003", api.ErrByte, 2)
}

// Promise 4.2: the most bytes, and one more.
func TestLong(t *testing.T) {
	for _, piece := range []string{"1", "A", "$", "+", "<", " ", "\"", "\"a", "#", "#N/A", "_", "\x00", "\xff", "\u00e9"} {
		full := strings.Repeat(piece, api.MaxContent)
		if _, code, _ := Scan(full[:api.MaxContent]); code == api.ErrLong {
			t.Fatalf("MaxContent bytes of %q are too long", piece)
		}
		refused(t, strings.Repeat(piece, api.MaxContent+1)[:api.MaxContent+1], api.ErrLong, 0)
	}
	told(t, `"`+strings.Repeat("a", api.MaxContent-2)+`"`, text(0, strings.Repeat("a", api.MaxContent-2)))
	told(t, strings.Repeat(`"`, api.MaxContent), text(0, strings.Repeat(`"`, api.MaxContent/2-1)))
	refused(t, `"`+strings.Repeat("a", api.MaxContent-1), api.ErrQuote, 0)
	refused(t, strings.Repeat("1", api.MaxContent-1)+"_", api.ErrByte, api.MaxContent-1)
	refused(t, "_"+strings.Repeat("1", api.MaxContent), api.ErrLong, 0)
	refused(t, `"`+strings.Repeat("a", api.MaxContent), api.ErrLong, 0)
	refused(t, strings.Repeat("\x00", 1<<20), api.ErrLong, 0)
	if l, code, at := Scan(strings.Repeat("+", api.MaxContent)); len(l) != api.MaxContent || code != api.OK || at != 0 || l[api.MaxContent-1] != mark(api.MaxContent-1, "+") {
		t.Error("MaxContent marks are", len(l), code, at)
	}
}

// Rules R3, R4: what is answered is new memory each time.
func TestNewMemory(t *testing.T) {
	const s = `A1+"a""b"<>#N/A`
	first, _, _ := Scan(s)
	second, _, _ := Scan(s)
	want := slices.Clone(first)
	for i := range first {
		first[i] = api.Token{}
	}
	_ = append(first[:0], make([]api.Token, cap(first))...)
	if !slices.Equal(second, want) {
		t.Error("two answers share memory")
	}
	told(t, s, want...)
}
