package lex

import (
	"regexp"
	"slices"
	"strings"
	"testing"

	"whittle/api"
)

// forms is what a token is by the chapter, a group a kind, in the order of the kinds.
var forms = regexp.MustCompile(`(?s)^(?:([0-9]+(?:\.[0-9]+)?)|("(?:""|[^"])*")|([A-Za-z$][A-Za-z$0-9]*)|(#DIV/0!|#VALUE!|#REF!|#NUM!|#N/A|#CIRCLE!|#LONG!|#ARG!)|(<>|<=|>=|[-+*/^&%(),:!=<>]))`)

// oracle is what Scan must answer of a text that is not too long, by the forms.
func oracle(s string) ([]api.Token, api.Errno, int) {
	var list []api.Token
	for at := 0; at < len(s); {
		if s[at] == ' ' {
			at++
			continue
		}
		m := forms.FindStringSubmatch(s[at:])
		// A text with a quote behind it was taken for want of an end further on.
		if s[at] == '"' && (m == nil || strings.HasPrefix(s[at+len(m[0]):], `"`)) {
			return nil, api.ErrQuote, at
		}
		if m == nil {
			return nil, api.ErrByte, at
		}
		for i := at; i < at+len(m[0]); i++ {
			if s[i] < 32 || s[i] > 126 {
				return nil, api.ErrByte, i
			}
		}
		kind := 1 + slices.IndexFunc(m[1:], func(group string) bool { return group != "" })
		said := m[0]
		if kind == api.TokText {
			said = strings.ReplaceAll(said[1:len(said)-1], `""`, `"`)
		}
		list = append(list, api.Token{Kind: kind, Text: said, At: at})
		at += len(m[0])
	}
	return list, api.OK, 0
}

// everyText calls f with all texts of at most so many of the pieces.
func everyText(most int, pieces []string, f func(string)) {
	var grow func(string, int)
	grow = func(s string, left int) {
		f(s)
		if left == 0 {
			return
		}
		for _, piece := range pieces {
			grow(s+piece, left-1)
		}
	}
	grow("", most)
}

// texts calls f with many texts, of single bytes and of whole tokens.
func texts(f func(string)) {
	everyText(4, []string{"1", "0", ".", `"`, "A", "$", "#", "<", ">", "=", "+", " ", "_", "\x1f", "\xff"}, f)
	everyText(7, []string{`"`, "a", " ", "\n"}, f)
	everyText(6, []string{"1", ".", "a", " ", "-"}, f)
	everyText(7, []string{"<", ">", "=", " "}, f)
	everyText(3, []string{"007", "2.50", `""`, `"a""b"`, `"""`, "$B$2", "z", "#N/A", "#DIV/0!", "#N", "<>", ">=", "!", "/", " ", "~", "\u00e9"}, f)
}

// Promises 4.1, 4.2, of very many texts.
func TestScanIsTheForms(t *testing.T) {
	texts(func(s string) {
		l, code, at := Scan(s)
		if want, why, where := oracle(s); !slices.Equal(l, want) || code != why || at != where {
			t.Fatalf("Scan of %q is %#v, %d, %d", s, l, code, at)
		}
	})
}

// placeless are tokens without their places.
func placeless(l []api.Token) []api.Token {
	bare := slices.Clone(l)
	for i := range bare {
		bare[i].At = 0
	}
	return bare
}

func sameButPlaces(t *testing.T, s string, want []api.Token) {
	t.Helper()
	l, code, at := Scan(s)
	if code != api.OK || at != 0 || !slices.Equal(placeless(l), placeless(want)) {
		t.Fatalf("Scan of %q is %#v, %d, %d", s, l, code, at)
	}
}

// Promise 4.4: what is told, written and told again.
func TestWrittenIsTold(t *testing.T) {
	texts(func(s string) {
		l, code, _ := Scan(s)
		if code != api.OK {
			return
		}
		written := Text(l...)
		sameButPlaces(t, written, l)
		if again, _, _ := Scan(written); Text(again...) != written {
			t.Fatalf("%q is written in two forms", s)
		}
	})
}

// Promise 4.4: it may be too long then.
func TestWrittenTooLong(t *testing.T) {
	for n, why := range map[int]api.Errno{512: api.OK, 513: api.ErrLong, 1024: api.ErrLong} {
		l, _, _ := Scan(strings.Repeat("+", n))
		if _, code, at := Scan(Text(l...)); code != why || at != 0 {
			t.Error("Scan of the Text of", n, "marks is", code, at)
		}
	}
}

// Promise 4.4: blanks more turn nothing but the places.
func TestBlanksMore(t *testing.T) {
	texts(func(s string) {
		l, code, _ := Scan(s)
		if code != api.OK {
			return
		}
		sameButPlaces(t, " "+s, l)
		sameButPlaces(t, s+"  ", l)
		for _, token := range l {
			sameButPlaces(t, s[:token.At]+"   "+s[token.At:], l)
		}
	})
}

// Promise 4.2: between the places there is nothing but tokens and blanks.
func TestPlacesAreTheTokens(t *testing.T) {
	texts(func(s string) {
		l, _, _ := Scan(s)
		passed := 0
		for _, token := range l {
			stands := Text(token)
			if token.At < passed || strings.Trim(s[passed:token.At], " ") != "" || !strings.HasPrefix(s[token.At:], stands) {
				t.Fatalf("Scan of %q tells %#v at a wrong place", s, token)
			}
			passed = token.At + len(stands)
		}
		if len(l) > 0 && strings.Trim(s[passed:], " ") != "" {
			t.Fatalf("Scan of %q leaves %q", s, s[passed:])
		}
	})
}

// Promise 4.5: the bytes ahead of a byte that is refused are taken, if it lies in no text.
func TestAheadIsTaken(t *testing.T) {
	within := 0
	texts(func(s string) {
		_, code, at := Scan(s)
		if code != api.ErrByte {
			return
		}
		_, ahead, _ := Scan(s[:at])
		// Behind an odd number of quotes a text is open.
		if strings.Count(s[:at], `"`)%2 == 1 {
			within++
		} else if ahead != api.OK {
			t.Fatalf("%q is refused at %d, and yet %q is not taken", s, at, s[:at])
		}
	})
	if within == 0 {
		t.Error("no byte was refused within a text")
	}
}
