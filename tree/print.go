package tree

import (
	"strings"

	"whittle/api"
	"whittle/lex"
	"whittle/num"
	"whittle/value"
)

// Print writes a formula.
func Print(l []api.Node) (string, api.Errno) {
	if code := Check(l); code != api.OK {
		return "", code
	}
	w := writer{left: l}
	w.part(comparing)
	return w.String(), api.OK
}

// writer writes the nodes of a tree in their order.
type writer struct {
	strings.Builder
	left []api.Node // those that are still to be written
}

// part writes the part that comes next, where it must bind so tight at least.
func (w *writer) part(least int) {
	n := w.left[0]
	w.left = w.left[1:]
	tight := tightness(n)
	if tight >= least {
		w.node(n, tight)
		return
	}
	w.WriteString("(")
	w.node(n, tight)
	w.WriteString(")")
}

// node writes a node and its parts, which stand next.
func (w *writer) node(n api.Node, tight int) {
	o, _ := operatorOf(n.Op)
	switch tight {
	case whole:
		w.single(n)
	case signing:
		w.WriteString(o.mark)
		w.part(signing)
	case percenting:
		w.part(percenting)
		w.WriteString(o.mark)
	default:
		w.part(tight)
		w.WriteString(o.mark)
		// They go from the left: one of the same row on the right would be read as standing outside.
		w.part(tight + 1)
	}
}

// single writes a node without an operator, and its parts.
func (w *writer) single(n api.Node) {
	switch n.Kind {
	case api.NodeValue:
		w.WriteString(literalText(n.V))
	case api.NodeCell:
		w.WriteString(cellText(n.A))
	case api.NodeArea:
		w.WriteString(cellText(n.A) + ":" + cellText(n.B))
	case api.NodeCall:
		w.call(n)
	}
}

func (w *writer) call(n api.Node) {
	w.WriteString(n.Name + "(")
	for i := range n.Args {
		if i > 0 {
			w.WriteString(",")
		}
		w.part(comparing)
	}
	w.WriteString(")")
}

// tightness is how tight a right node holds its parts together.
func tightness(n api.Node) int {
	if o, ok := operatorOf(n.Op); ok {
		return o.tight
	}
	return whole
}

func literalText(v api.Value) string {
	switch v.Kind {
	case api.Number:
		return num.Text(v.Num)
	case api.Text:
		return lex.Text(api.Token{Kind: api.TokText, Text: v.Text})
	}
	return value.Show(v)
}

func cellText(r api.Ref) string {
	if r.Sheet == "" {
		return cellWord(r)
	}
	return r.Sheet + "!" + cellWord(r)
}
