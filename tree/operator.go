package tree

import "whittle/api"

// How tight a node holds its parts together, the loosest first: the rows of the grammar.
const (
	comparing = iota
	joining
	adding
	multiplying
	raising
	signing
	percenting
	whole
)

// operator is an operation, the mark that it is written as, and how tight it binds.
type operator struct {
	op    int
	mark  string
	tight int
}

var operators = [...]operator{
	{api.OpEq, "=", comparing},
	{api.OpNe, "<>", comparing},
	{api.OpLt, "<", comparing},
	{api.OpLe, "<=", comparing},
	{api.OpGt, ">", comparing},
	{api.OpGe, ">=", comparing},
	{api.OpJoin, "&", joining},
	{api.OpAdd, "+", adding},
	{api.OpSub, "-", adding},
	{api.OpMul, "*", multiplying},
	{api.OpDiv, "/", multiplying},
	{api.OpPow, "^", raising},
	{api.OpNeg, "-", signing},
	{api.OpPlus, "+", signing},
	{api.OpPercent, "%", percenting},
}

// kind is the Kind of the nodes that have the operator.
func (o operator) kind() int {
	if o.tight < signing {
		return api.NodeBin
	}
	return api.NodeUn
}

// operatorOf is the operator of an operation; false, if there is none.
func operatorOf(op int) (operator, bool) {
	for _, o := range operators {
		if o.op == op {
			return o, true
		}
	}
	return operator{}, false
}

// operatorAs is the operator of a row of the grammar that is written as a mark; false, if there is none.
func operatorAs(mark string, tight int) (operator, bool) {
	for _, o := range operators {
		if o.mark == mark && o.tight == tight {
			return o, true
		}
	}
	return operator{}, false
}
