package lex

import (
	"math"
	"slices"
	"strings"
	"testing"

	"whittle/api"
)

// Promise 4.3.
func TestText(t *testing.T) {
	for _, x := range []struct {
		ts   []api.Token
		want string
	}{
		{nil, ""}, {[]api.Token{}, ""}, {[]api.Token{{}}, ""}, {[]api.Token{{}, {}}, " "}, {[]api.Token{{}, {}, {}}, "  "},
		{[]api.Token{number(0, "1.50")}, "1.50"}, {[]api.Token{word(0, "$A$1")}, "$A$1"}, {[]api.Token{fault(0, "#N/A")}, "#N/A"}, {[]api.Token{mark(0, "<>")}, "<>"},
		{[]api.Token{text(0, "")}, `""`}, {[]api.Token{text(0, `"`)}, `""""`}, {[]api.Token{text(0, `""`)}, `""""""`}, {[]api.Token{text(0, `"a"b"`)}, `"""a""b"""`}, {[]api.Token{text(0, " ")}, `" "`},
		{[]api.Token{text(0, ""), text(0, "")}, `"" ""`}, {[]api.Token{text(0, "a"), text(0, "b")}, `"a" "b"`}, {[]api.Token{text(0, "\xff\"\x00")}, "\"\xff\"\"\x00\""},
		{[]api.Token{word(0, "A1"), mark(0, "+"), text(0, `a"b`)}, `A1 + "a""b"`}, {[]api.Token{mark(0, "<"), mark(0, ">")}, "< >"}, {[]api.Token{number(0, ""), word(0, ""), mark(0, "+")}, "  +"},
	} {
		if got := Text(x.ts...); got != x.want {
			t.Fatalf("Text of %#v is %q", x.ts, got)
		}
	}
}

// Promise 4.3: of any Kind but that of texts it is the Text as it stands, right or not.
func TestTextOfAnyKind(t *testing.T) {
	for _, kind := range []int{math.MinInt, -api.TokText, -1, 0, api.TokNumber, api.TokWord, api.TokFault, api.TokMark, api.TokMark + 1, 99, math.MaxInt} {
		for _, s := range []string{"", `"`, `""`, `x"y`, `"x"`, "x", " ", "  ", "\x00\xff", "\u00e9", strings.Repeat(`"`, 5000)} {
			one := api.Token{Kind: kind, Text: s, At: kind}
			if got := Text(one); got != s {
				t.Fatalf("Text of %#v is %q", one, got)
			}
			if got := Text(one, text(0, s), one); got != s+` "`+strings.ReplaceAll(s, `"`, `""`)+`" `+s {
				t.Fatalf("Text of %#v and others is %q", one, got)
			}
		}
	}
}

// Promise 4.3: At is not looked at.
func TestTextWithoutPlaces(t *testing.T) {
	for _, at := range []int{math.MinInt, -1, 0, 1, 77, math.MaxInt} {
		if got := Text(word(at, "A1"), mark(at, "+"), text(-at, "b"), number(0, "1")); got != `A1 + "b" 1` {
			t.Error("Text with places is", got)
		}
	}
}

// Rule R3: what is handed in stays as it is, its spare room too.
func TestTextKeepsItsTokens(t *testing.T) {
	room := []api.Token{word(0, "A1"), text(2, `a"b`), mark(9, "+"), number(10, "1")}
	before := slices.Clone(room)
	if got := Text(room[:2]...); got != `A1 "a""b"` {
		t.Error("Text is", got)
	}
	if !slices.Equal(room, before) {
		t.Error("the tokens became", room)
	}
}

// Text has no limit of its own.
func TestTextOfMany(t *testing.T) {
	many := slices.Repeat([]api.Token{mark(0, "+")}, 5000)
	if got, want := Text(many...), strings.Repeat("+ ", 4999)+"+"; got != want {
		t.Error("Text of many has", len(got), "bytes")
	}
}
