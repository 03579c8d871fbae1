package tree

import (
	"whittle/api"
	"whittle/lex"
	"whittle/num"
	"whittle/value"
)

// refusal is what reading gives up with: why, and where.
type refusal struct {
	code api.Errno
	at   int
}

// Parse reads a formula (without =); or an error, and where.
func Parse(s string) (l []api.Node, code api.Errno, at int) {
	tokens, code, at := lex.Scan(s)
	if code != api.OK {
		return nil, code, at
	}
	defer func() {
		if r, ok := recover().(refusal); ok {
			l, code, at = nil, r.code, r.at
		}
	}()
	p := parser{tokens: tokens, end: len(s)}
	l = p.all().row(nil)
	if code = Check(l); code != api.OK {
		return nil, code, 0
	}
	return l, api.OK, 0
}

// part is a node with its parts. (A row is laid when all is read: an operator stands behind its first part in a text, and ahead of it in a row.)
type part struct {
	api.Node
	parts []part
}

// row is a row with the part behind it.
func (x part) row(l []api.Node) []api.Node {
	l = append(l, x.Node)
	for _, inner := range x.parts {
		l = inner.row(l)
	}
	return l
}

func operation(o operator, parts ...part) part {
	return part{api.Node{Kind: o.kind(), Op: o.op}, parts}
}

func constant(v api.Value) part {
	return part{Node: api.Node{Kind: api.NodeValue, V: v}}
}

// parser goes through tokens from the left. At the first one that can't stand there it panics with a refusal.
type parser struct {
	tokens []api.Token
	end    int // where the text ends
}

// next is the token that comes next; at the end one of no Kind.
func (p *parser) next() api.Token {
	if len(p.tokens) == 0 {
		return api.Token{At: p.end}
	}
	return p.tokens[0]
}

// follows: does a mark stand behind the next token?
func (p *parser) follows(mark string) bool {
	return len(p.tokens) > 1 && isMark(p.tokens[1], mark)
}

func isMark(t api.Token, mark string) bool {
	return t.Kind == api.TokMark && t.Text == mark
}

// pass goes on behind some tokens that were looked at.
func (p *parser) pass(n int) { p.tokens = p.tokens[n:] }

func (p *parser) refuse(code api.Errno) { panic(refusal{code, p.next().At}) }

// must gives up at the next token, if it can't stand there.
func (p *parser) must(stands bool) {
	if !stands {
		p.refuse(api.ErrForm)
	}
}

// take passes a mark, if it comes next.
func (p *parser) take(mark string) bool {
	if !isMark(p.next(), mark) {
		return false
	}
	p.pass(1)
	return true
}

// takeOperator passes an operator of a row of the grammar, if one comes next.
func (p *parser) takeOperator(tight int) (operator, bool) {
	t := p.next()
	o, ok := operatorAs(t.Text, tight)
	if !ok || t.Kind != api.TokMark {
		return operator{}, false
	}
	p.pass(1)
	return o, true
}

// all reads a formula, and nothing behind it.
func (p *parser) all() part {
	x := p.formula()
	p.must(len(p.tokens) == 0)
	return x
}

func (p *parser) formula() part { return p.between(comparing) }

// between reads what has operators of a row of the grammar between its parts, or just one part.
func (p *parser) between(tight int) part {
	if tight == signing {
		return p.signed()
	}
	x := p.between(tight + 1)
	for o, ok := p.takeOperator(tight); ok; o, ok = p.takeOperator(tight) {
		x = operation(o, x, p.between(tight+1))
	}
	return x
}

func (p *parser) signed() part {
	if o, ok := p.takeOperator(signing); ok {
		return operation(o, p.signed())
	}
	return p.percents()
}

func (p *parser) percents() part {
	x := p.single()
	for o, ok := p.takeOperator(percenting); ok; o, ok = p.takeOperator(percenting) {
		x = operation(o, x)
	}
	return x
}

// single reads what no operator takes apart.
func (p *parser) single() part {
	switch p.next().Kind {
	case api.TokWord:
		return p.word()
	case api.TokMark:
		return p.brackets()
	}
	return p.literal()
}

// literal reads a number, a text or a fault.
func (p *parser) literal() part {
	v, ok := literalValue(p.next())
	p.must(ok)
	p.pass(1)
	return constant(v)
}

// literalValue is the value that a token is; false, if it is none.
func literalValue(t api.Token) (api.Value, bool) {
	switch t.Kind {
	case api.TokNumber:
		n, ok := num.Read(t.Text)
		return value.Number(n), ok
	case api.TokText:
		return value.Text(t.Text), len(t.Text) <= api.MaxText
	case api.TokFault:
		return value.Read(t.Text), true
	}
	return api.Value{}, false
}

func (p *parser) brackets() part {
	p.must(p.take("("))
	x := p.formula()
	p.must(p.take(")"))
	return x
}

// word reads what begins with a word: what stands behind it says what it is.
func (p *parser) word() part {
	said := p.next().Text
	switch {
	case p.follows("("):
		return p.call(said)
	case p.follows("!"):
		p.must(isSheetName(said))
		p.pass(2)
		return p.cells(said)
	case said == "TRUE" || said == "FALSE":
		p.pass(1)
		return constant(value.Truth(said == "TRUE"))
	}
	return p.cells("")
}

// call reads a function's name and its arguments.
func (p *parser) call(name string) part {
	p.must(isFunctionName(name))
	p.pass(2)
	args := p.arguments()
	return part{api.Node{Kind: api.NodeCall, Name: name, Args: len(args)}, args}
}

// arguments reads what stands behind a call's opening bracket, its closing one too.
func (p *parser) arguments() []part {
	if p.take(")") {
		return nil
	}
	args := []part{p.formula()}
	for !p.take(")") {
		if len(args) == api.MaxArgs && isMark(p.next(), ",") {
			p.refuse(api.ErrMany)
		}
		p.must(p.take(","))
		args = append(args, p.formula())
	}
	return args
}

// cells reads a cell or an area of a sheet, behind the sheet's name.
func (p *parser) cells(sheet string) part {
	n := api.Node{Kind: api.NodeCell, A: p.cell()}
	n.A.Sheet = sheet
	if p.take(":") {
		n.Kind, n.B = api.NodeArea, p.cell()
	}
	return part{Node: n}
}

// cell reads a cell's word.
func (p *parser) cell() api.Ref {
	// With one of these marks behind it the word is a function's or a sheet's name.
	p.must(p.next().Kind == api.TokWord && !p.follows("(") && !p.follows("!"))
	r, ok := readCellWord(p.next().Text)
	p.must(ok)
	p.pass(1)
	return r
}
