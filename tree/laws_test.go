package tree

import (
	"slices"
	"strings"
	"testing"

	"whittle/api"
	"whittle/lex"
)

// texts calls f with very many texts, right and wrong.
func texts(f func(string)) {
	everyText(4, " ", []string{"1", `"a"`, "A1", "TRUE", "F", "a", "#N/A", "(", ")", ",", ":", "!", "-", "*", "^", "%"}, f)
	everyText(6, "", []string{"1", "(", ")", "-", "^", "%"}, f)
	everyText(7, "", []string{"F(", "1", ",", ")"}, f)
	everyText(6, " ", []string{"A1", "T", "(", ")", "!", ":"}, f)
	everyText(5, " ", []string{"B$2", "TRUE", "(", ")", "!", ":", "+"}, f)
	everyText(5, "", []string{"1", "<", ">", "=", "&", "-", " "}, f)
	everyText(5, "", []string{"$", "A", "1", "0", "a", "!"}, f)
}

func holdParse(t *testing.T, s string) {
	t.Helper()
	l, code, at := Parse(s)
	if want, why, where := oracle(s); !slices.Equal(l, want) || code != why || at != where {
		t.Fatalf("Parse of %q is %s, %d, %d, not %s, %d, %d", s, brief(l), code, at, brief(want), why, where)
	}
}

// Promises 5.3 to 5.5, of very many texts.
func TestParseIsTheGrammar(t *testing.T) {
	good := 0
	texts(func(s string) {
		holdParse(t, s)
		if _, code, _ := Parse(s); code == api.OK {
			good++
		}
	})
	if good < 1000 {
		t.Error("just", good, "of the texts are formulas")
	}
}

// trees are all formulas with just so many of the operators, with numbers as their last parts.
func trees(k int, ones, twos []int) []sample {
	if k == 0 {
		return []sample{n(7)}
	}
	var list []sample
	for _, op := range ones {
		for _, x := range trees(k-1, ones, twos) {
			list = append(list, un(op, x))
		}
	}
	for left := range k {
		ys := trees(k-1-left, ones, twos)
		for _, x := range trees(left, ones, twos) {
			for _, y := range ys {
				for _, op := range twos {
					list = append(list, bin(op, x, y))
				}
			}
		}
	}
	return list
}

// bare is a cell without its sheet.
func bare(r api.Ref) api.Ref {
	r.Sheet = ""
	return r
}

// leaves are formulas without operators, of every Kind and at the edges of what may be.
func leaves() []sample {
	list := []sample{n(0), n(1), n(api.MaxNum), frac(1, api.MaxDen), frac(1, 64), frac(15, 2), frac(999999999999, api.MaxDen), truth(true), truth(false), call("F"), call("TRUE"), call("A1"), call(strings.Repeat("Z", 16), n(1)), call("R2D2", n(1), txt(","), call("G", n(2), call("H")))}
	for code := api.FaultDiv; code <= api.FaultArg; code++ {
		list = append(list, fault(code))
	}
	for _, s := range []string{"", " ", `"`, `""`, `a"b`, "A1", "12", "=1", "TRUE", "#N/A", "'", "(", "~", strings.Repeat("x", 256), strings.Repeat(`"`, 256)} {
		list = append(list, txt(s))
	}
	for _, sheet := range []string{"", "S", "t", "A1", "TRUE", "true", "Ab9", strings.Repeat("q", 16)} {
		for fixes := range 16 {
			a := api.Ref{Sheet: sheet, Row: api.MaxRows - 1, Col: 27, FixRow: fixes&1 > 0, FixCol: fixes&2 > 0}
			b := api.Ref{Row: 0, Col: api.MaxCols - 1, FixRow: fixes&4 > 0, FixCol: fixes&8 > 0}
			list = append(list, cell(a), area(a, b), area(on(sheet, 0, 0), bare(a)), area(on(sheet, 3, 3), at(3, 3)))
		}
	}
	return list
}

// formulas calls f with very many formulas.
func formulas(f func(sample)) {
	for k := range 4 {
		for _, x := range trees(k, unOps(), binOps()) {
			f(x)
		}
	}
	for _, x := range trees(4, []int{api.OpNeg, api.OpPercent}, []int{api.OpEq, api.OpJoin, api.OpSub, api.OpDiv, api.OpPow}) {
		f(x)
	}
	for _, x := range leaves() {
		for _, y := range []sample{x, neg(x), percent(x), bin(api.OpLt, x, x), bin(api.OpSub, x, bin(api.OpPow, n(2), x)), call("F", x), call("F", bin(api.OpNe, x, x), x, neg(x)), percent(call("F", x))} {
			f(y)
		}
	}
}

// Promises 5.6, 5.7: what is printed is read as it was, and printed so again.
func TestPrintedIsRead(t *testing.T) {
	formulas(func(x sample) {
		l := x.row()
		s, code := Print(l)
		if code != api.OK || strings.HasPrefix(s, " ") {
			t.Fatalf("Print of %s is %q, %d", brief(l), s, code)
		}
		again, code, at := Parse(s)
		if len(s) > api.MaxContent {
			if again != nil || code != api.ErrLong || at != 0 {
				t.Fatalf("Parse of %d bytes is %d", len(s), code)
			}
			return
		}
		if !slices.Equal(again, l) || code != api.OK || at != 0 {
			t.Fatalf("%s is printed %q, and that is read as %s, %d, %d", brief(l), s, brief(again), code, at)
		}
	})
}

// Promise 5.7: the one form of what is read.
func TestOneForm(t *testing.T) {
	texts(func(s string) {
		l, code, _ := Parse(s)
		if code != api.OK {
			return
		}
		form, _ := Print(l)
		again, _, _ := Parse(form)
		if !slices.Equal(again, l) {
			t.Fatalf("%q is printed %q, and that is read as %s", s, form, brief(again))
		}
		if twice, _ := Print(again); twice != form {
			t.Fatalf("%q has the forms %q and %q", s, form, twice)
		}
		if len(form) > len(strings.ReplaceAll(s, " ", "")) {
			t.Fatalf("%q is printed longer, as %q", s, form)
		}
	})
}

// withoutPair is a text without its brackets number i that hold no arguments; false, if it has none of that number.
func withoutPair(tokens []api.Token, i int) (string, bool) {
	var open []int
	for k, token := range tokens {
		switch {
		case isMark(token, "("):
			open = append(open, k)
		case isMark(token, ")"):
			from := open[len(open)-1]
			open = open[:len(open)-1]
			if from > 0 && tokens[from-1].Kind == api.TokWord {
				continue
			}
			if i--; i < 0 {
				rest := slices.Delete(slices.Clone(tokens), k, k+1)
				return lex.Text(slices.Delete(rest, from, from+1)...), true
			}
		}
	}
	return "", false
}

// Promise 5.6: without any of its brackets what is printed is read otherwise.
func TestNoBracketTooMany(t *testing.T) {
	pairs := 0
	formulas(func(x sample) {
		l := x.row()
		s, _ := Print(l)
		tokens, _, _ := lex.Scan(s)
		for i := 0; ; i++ {
			less, ok := withoutPair(tokens, i)
			if !ok {
				return
			}
			pairs++
			if again, _, _ := Parse(less); slices.Equal(again, l) {
				t.Fatalf("%q is read as %q", s, less)
			}
		}
	})
	if pairs < 10000 {
		t.Error("just", pairs, "pairs of brackets")
	}
}

// markOf is what each operator is written as, for the tests alone.
var markOf = map[int]string{
	api.OpNeg: "-", api.OpPlus: "+", api.OpPercent: "%", api.OpAdd: "+", api.OpSub: "-", api.OpMul: "*", api.OpDiv: "/", api.OpPow: "^", api.OpJoin: "&",
	api.OpEq: "=", api.OpNe: "<>", api.OpLt: "<", api.OpLe: "<=", api.OpGt: ">", api.OpGe: ">=",
}

// bracketed is a formula with brackets around every part that may have them.
func bracketed(x sample) string {
	var inner []string
	for _, part := range x.of {
		inner = append(inner, "("+bracketed(part)+")")
	}
	switch x.node.Kind {
	case api.NodeUn:
		if x.node.Op == api.OpPercent {
			return inner[0] + "%"
		}
		return markOf[x.node.Op] + inner[0]
	case api.NodeBin:
		return inner[0] + markOf[x.node.Op] + inner[1]
	case api.NodeCall:
		return x.node.Name + "(" + strings.Join(inner, ",") + ")"
	}
	s, _ := Print(x.row())
	return s
}

// Promises 5.4, 5.8: brackets leave no node, wherever they stand.
func TestBracketsTurnNothing(t *testing.T) {
	formulas(func(x sample) {
		inner := bracketed(x)
		for _, s := range []string{inner, "( (" + inner + ") )"} {
			if len(s) <= api.MaxContent {
				read(t, s, x)
			}
		}
	})
	texts(func(s string) {
		l, code, _ := Parse(s)
		again, within, _ := Parse("(" + s + ")")
		if code == api.OK && (!slices.Equal(again, l) || within != api.OK) {
			t.Fatalf("%q is read otherwise within brackets, as %s, %d", s, brief(again), within)
		}
	})
}

// Promise 5.8: blanks between tokens turn nothing but places.
func TestBlanksTurnNothing(t *testing.T) {
	hold := func(s string) {
		tokens, code, _ := lex.Scan(s)
		blanks := "  " + strings.ReplaceAll(lex.Text(tokens...), " ", "  ") + " "
		// Blanks within a text are none between tokens.
		if code != api.OK || len(blanks) > api.MaxContent || strings.Contains(s, `"`) {
			return
		}
		l, code, _ := Parse(s)
		if again, why, _ := Parse(blanks); !slices.Equal(again, l) || why != code {
			t.Fatalf("%q is %s, %d, and %q is %s, %d", s, brief(l), code, blanks, brief(again), why)
		}
	}
	texts(hold)
	formulas(func(x sample) {
		s, _ := Print(x.row())
		hold(s)
	})
}

// Promise 5.8: blanks between any two tokens, texts with blanks among them.
func TestBlanksAnywhere(t *testing.T) {
	for _, s := range []string{`-F(T!$A$1:B2,"a ""b",2.5%)<>"  "&#N/A^TRUE`, `"  "&("a "=" a")`, "((1)+(2))*S!A1", "G(F( ),TRUE( ))"} {
		want, _, _ := Parse(s)
		tokens, _, _ := lex.Scan(s)
		for _, token := range append(tokens, api.Token{At: len(s)}) {
			blanks := s[:token.At] + "   " + s[token.At:]
			if l, code, _ := Parse(blanks); !slices.Equal(l, want) || code != api.OK {
				t.Fatalf("Parse of %q is %s, %d", blanks, brief(l), code)
			}
		}
	}
}
