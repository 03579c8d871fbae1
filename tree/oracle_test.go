package tree

import (
	"regexp"
	"strconv"
	"strings"

	"whittle/api"
	"whittle/lex"
	"whittle/num"
)

// The rows of the grammar once more, for the tests alone: what each operator between two parts is, and how tight it binds.
var betweenOps = map[string]struct{ op, tight int }{
	"=": {api.OpEq, 1}, "<>": {api.OpNe, 1}, "<": {api.OpLt, 1}, "<=": {api.OpLe, 1}, ">": {api.OpGt, 1}, ">=": {api.OpGe, 1},
	"&": {api.OpJoin, 2}, "+": {api.OpAdd, 3}, "-": {api.OpSub, 3}, "*": {api.OpMul, 4}, "/": {api.OpDiv, 4}, "^": {api.OpPow, 5},
}

var signOps = map[string]int{"-": api.OpNeg, "+": api.OpPlus}

var faultCodes = map[string]int{"#DIV/0!": 1, "#VALUE!": 2, "#REF!": 3, "#NUM!": 4, "#N/A": 5, "#CIRCLE!": 6, "#LONG!": 7, "#ARG!": 8}

const signTight = 6

var (
	cellForm     = regexp.MustCompile(`^(\$?)([A-Z]|[A-H][A-Z]|I[A-V])(\$?)([1-9][0-9]{0,4})$`)
	functionForm = regexp.MustCompile(`^[A-Z][A-Z0-9]{0,15}$`)
	sheetForm    = regexp.MustCompile(`^[A-Za-z][A-Za-z0-9]{0,15}$`)
)

// waiting is an operator whose last part has not come yet; tight is that of a sign or of one between.
type waiting struct{ op, tight int }

// bracket is one that is open, the whole formula as the first: the parts and the operators that wait in it.
type bracket struct {
	call string // the function's name, if it is a call's
	args []sample
	have []sample
	ops  []waiting
}

// yard reads tokens without recursion: operators wait till one comes that binds no tighter.
type yard struct {
	tokens []api.Token
	i      int
	open   []bracket
	wants  bool // a part must come, not an operator
	why    api.Errno
}

func (y *yard) top() *bracket { return &y.open[len(y.open)-1] }

func (y *yard) markAt(i int) string {
	if i < len(y.tokens) && y.tokens[i].Kind == api.TokMark {
		return y.tokens[i].Text
	}
	return ""
}

// settle joins what waits and binds so tight at least.
func (b *bracket) settle(tight int) {
	for len(b.ops) > 0 && b.ops[len(b.ops)-1].tight >= tight {
		o, k := b.ops[len(b.ops)-1], len(b.have)
		b.ops = b.ops[:len(b.ops)-1]
		if o.tight == signTight {
			b.have[k-1] = un(o.op, b.have[k-1])
			continue
		}
		b.have = append(b.have[:k-2], bin(o.op, b.have[k-2], b.have[k-1]))
	}
}

func (y *yard) give(x sample) bool {
	y.top().have = append(y.top().have, x)
	y.wants = false
	return true
}

// close ends the innermost bracket with a part, and lays it into the next one.
func (y *yard) close() bool {
	b := *y.top()
	y.open = y.open[:len(y.open)-1]
	if b.call != "" {
		return y.give(call(b.call, b.args...))
	}
	return y.give(b.have[0])
}

// operand takes the tokens from number i on as a part, or what may begin one.
func (y *yard) operand() bool {
	t := y.tokens[y.i]
	y.i++
	switch t.Kind {
	case api.TokNumber:
		x, ok := num.Read(t.Text)
		return ok && y.give(frac(x.N, x.D))
	case api.TokText:
		return len(t.Text) <= 256 && y.give(txt(t.Text))
	case api.TokFault:
		return y.give(fault(faultCodes[t.Text]))
	case api.TokWord:
		return y.name(t.Text)
	}
	if op, ok := signOps[t.Text]; ok {
		y.top().ops = append(y.top().ops, waiting{op, signTight})
		return true
	}
	y.open = append(y.open, bracket{})
	return t.Text == "("
}

// name takes what stands behind a word.
func (y *yard) name(s string) bool {
	switch y.markAt(y.i) {
	case "(":
		y.open = append(y.open, bracket{call: s})
		if !functionForm.MatchString(s) {
			return false
		}
		y.i++
		if y.markAt(y.i) == ")" {
			y.i++
			return y.close()
		}
		return true
	case "!":
		if !sheetForm.MatchString(s) {
			return false
		}
		y.i++
		return y.cells(s)
	}
	if s == "TRUE" || s == "FALSE" {
		return y.give(truth(s == "TRUE"))
	}
	y.i--
	return y.cells("")
}

// cells takes a cell's word, and another one behind a colon.
func (y *yard) cells(sheet string) bool {
	a, ok := y.cell()
	if !ok {
		return false
	}
	a.Sheet = sheet
	if y.markAt(y.i) != ":" {
		return y.give(cell(a))
	}
	y.i++
	b, ok := y.cell()
	return ok && y.give(area(a, b))
}

func (y *yard) cell() (api.Ref, bool) {
	if y.i++; y.i > len(y.tokens) {
		return api.Ref{}, false
	}
	t := y.tokens[y.i-1]
	m := cellForm.FindStringSubmatch(t.Text)
	if behind := y.markAt(y.i); t.Kind != api.TokWord || m == nil || behind == "(" || behind == "!" {
		return api.Ref{}, false
	}
	col := 0
	for _, letter := range m[2] {
		col = col*26 + int(letter-'A') + 1
	}
	row, _ := strconv.Atoi(m[4])
	return api.Ref{Row: row - 1, Col: col - 1, FixCol: m[1] != "", FixRow: m[3] != ""}, row <= 65536
}

// behind takes a token that stands behind a part.
func (y *yard) behind() bool {
	t, mark, b := y.tokens[y.i], y.markAt(y.i), y.top()
	y.i++
	if o, ok := betweenOps[mark]; ok && t.Kind == api.TokMark {
		b.settle(o.tight)
		b.ops = append(b.ops, waiting{o.op, o.tight})
		y.wants = true
		return true
	}
	k := len(b.have)
	switch {
	case mark == "%":
		b.have[k-1] = percent(b.have[k-1])
		return true
	case mark == ")" && len(y.open) > 1 || mark == "," && b.call != "":
		b.settle(0)
		b.args, b.have = append(b.args, b.have[0]), b.have[:1]
		if mark == ")" {
			return y.close()
		}
		b.have, y.wants = nil, true
		if len(b.args) == 30 {
			y.why = api.ErrMany
		}
		return len(b.args) < 30
	}
	return false
}

// oracle is what Parse must answer.
func oracle(s string) ([]api.Node, api.Errno, int) {
	tokens, code, at := lex.Scan(s)
	if code != api.OK {
		return nil, code, at
	}
	y := yard{tokens: tokens, open: []bracket{{}}, wants: true, why: api.ErrForm}
	for y.i < len(tokens) {
		step := y.behind
		if y.wants {
			step = y.operand
		}
		if !step() {
			return nil, y.why, y.place(s)
		}
	}
	if y.wants || len(y.open) > 1 {
		return nil, api.ErrForm, len(s)
	}
	y.open[0].settle(0)
	return judged(y.open[0].have[0])
}

// place is where the token begins at which a step failed: it stands just ahead of number i.
func (y *yard) place(s string) int {
	if y.i > len(y.tokens) {
		return len(s)
	}
	return y.tokens[y.i-1].At
}

func judged(x sample) ([]api.Node, api.Errno, int) {
	l := x.row()
	switch {
	case len(l) > 256:
		return nil, api.ErrNodes, 0
	case x.deep() > 32:
		return nil, api.ErrDeep, 0
	}
	return l, api.OK, 0
}

// everyText calls f with all rows of at most so many of the pieces, with something between.
func everyText(most int, between string, pieces []string, f func(string)) {
	var grow func(list []string)
	grow = func(list []string) {
		f(strings.Join(list, between))
		if len(list) == most {
			return
		}
		for _, piece := range pieces {
			grow(append(list[:len(list):len(list)], piece))
		}
	}
	grow(nil)
}
