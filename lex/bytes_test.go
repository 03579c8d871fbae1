package lex

import (
	"strings"
	"testing"

	"whittle/api"
)

// alone is the token that a byte is by itself; false, if it is none.
func alone(b byte) (api.Token, bool) {
	s := string([]byte{b})
	switch {
	case b >= '0' && b <= '9':
		return number(0, s), true
	case b >= 'A' && b <= 'Z', b >= 'a' && b <= 'z', b == '$':
		return word(0, s), true
	case strings.Contains(oneMarks, s):
		return mark(0, s), true
	}
	return api.Token{}, false
}

// Promises 4.1, 4.2: each byte by itself, and at the beginning.
func TestEachByte(t *testing.T) {
	for n := range 256 {
		b := byte(n)
		s := string([]byte{b})
		one, ok := alone(b)
		switch {
		case ok:
			told(t, s, one)
			told(t, s+" +", one, mark(2, "+"))
		case b == ' ':
			told(t, s)
			told(t, s+"+", mark(1, "+"))
		case b == '"':
			refused(t, s, api.ErrQuote, 0)
			refused(t, s+"A1", api.ErrQuote, 0)
		default:
			refused(t, s, api.ErrByte, 0)
			refused(t, s+"A1", api.ErrByte, 0)
			refused(t, s+" ", api.ErrByte, 0)
			refused(t, "  "+s, api.ErrByte, 2)
		}
	}
}

// Promises 4.1, 4.2: each byte that begins nothing, behind each kind of token.
func TestEachWrongByteBehind(t *testing.T) {
	for _, ahead := range []string{"1", "1.5", `""`, `"a""b"`, "A1", "$", "#N/A", "#DIV/0!", "+", "<", "<>", ">=", ")", " "} {
		for n := range 256 {
			b := byte(n)
			if _, ok := alone(b); ok || b == ' ' {
				continue
			}
			s := string([]byte{b})
			switch {
			case b != '"':
				refused(t, ahead+s, api.ErrByte, len(ahead))
				refused(t, ahead+s+"+", api.ErrByte, len(ahead))
				refused(t, ahead+" "+s+`"`, api.ErrByte, len(ahead)+1)
			case !strings.HasPrefix(ahead, s):
				refused(t, ahead+s, api.ErrQuote, len(ahead))
			default:
				refused(t, ahead+s, api.ErrQuote, 0)
			}
		}
	}
}

// Promise 4.1: each byte that begins something, behind each kind of token.
func TestEachByteBehind(t *testing.T) {
	for _, ahead := range []api.Token{number(0, "1"), number(0, "1.5"), word(0, "A1"), fault(0, "#N/A"), mark(0, "+")} {
		for n := range 256 {
			one, ok := alone(byte(n))
			if !ok {
				continue
			}
			joins := one.Kind == api.TokNumber && ahead.Kind != api.TokFault && ahead.Kind != api.TokMark || one.Kind == api.TokWord && ahead.Kind == api.TokWord
			s := ahead.Text + one.Text
			if joins {
				told(t, s, api.Token{Kind: ahead.Kind, Text: s})
				continue
			}
			one.At = len(ahead.Text)
			told(t, s, ahead, one)
		}
	}
}

// Promise 4.2: each byte within a text.
func TestEachByteWithin(t *testing.T) {
	for n := range 256 {
		s := string([]byte{byte(n)})
		for _, ahead := range []string{"", "a", `""`, `a""`, " "} {
			for _, behind := range []string{"", "b", `""b`, " "} {
				inner := ahead + s + behind
				open := `"` + inner
				switch {
				case n == '"':
					continue
				case n < 32 || n > 126:
					refused(t, open+`"`, api.ErrByte, 1+len(ahead))
					refused(t, open+`" _`, api.ErrByte, 1+len(ahead))
					refused(t, "1 "+open+`"`, api.ErrByte, 3+len(ahead))
				default:
					told(t, open+`"`, text(0, strings.ReplaceAll(inner, `""`, `"`)))
				}
				refused(t, open, api.ErrQuote, 0)
				refused(t, "A1 "+open, api.ErrQuote, 3)
			}
		}
	}
}

// Promise 4.2: bytes that are no UTF-8, and runes that look like letters, digits, quotes and blanks.
func TestNoLatin(t *testing.T) {
	for _, s := range []string{"\xff", "\x80", "\xc3", "\xc3\x28", "\xe2\x82", "\xed\xa0\x80", "\xf4\x90\x80\x80", "\u00e9", "\u00c4", "\u0661", "\uff11", "\uff21", "\u201c", "\u00a0", "\u3000", "\ufffd", "\ufeff", "\U0001f600", "\u2260"} {
		refused(t, s, api.ErrByte, 0)
		refused(t, "A"+s, api.ErrByte, 1)
		refused(t, "1"+s, api.ErrByte, 1)
		refused(t, "1."+s, api.ErrByte, 1)
		refused(t, "<"+s, api.ErrByte, 1)
		refused(t, `"`+s+`"`, api.ErrByte, 1)
		refused(t, `"a"`+s, api.ErrByte, 3)
		refused(t, `"a`+s+`b"`, api.ErrByte, 2)
		refused(t, `"`+s, api.ErrQuote, 0)
	}
}
