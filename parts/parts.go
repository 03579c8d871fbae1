// Package parts: formulas as nodes with their parts, and the cells and areas that they name where they stand (DOC.md, 8.3, 8.4). Codes are written of them, and values worked out.
package parts

import "whittle/api"

// Part is a node with its parts.
type Part struct {
	api.Node
	Parts []Part
}

// Of is a tree's first node with its parts.
func Of(l []api.Node) Part {
	whole, _ := grow(l)
	return whole
}

// grow is the part that a row of a tree begins with, and the row behind it.
func grow(l []api.Node) (Part, []api.Node) {
	p := Part{Node: l[0]}
	l = l[1:]
	for range count(p.Node) {
		inner, rest := grow(l)
		p.Parts, l = append(p.Parts, inner), rest
	}
	return p, l
}

// count is how many parts a node of a tree has.
func count(n api.Node) int {
	switch n.Kind {
	case api.NodeUn:
		return 1
	case api.NodeBin:
		return 2
	}
	return n.Args
}

// IsArea: is it an area?
func (p Part) IsArea() bool { return p.Kind == api.NodeArea }

// Apart are the parts that are areas, and all others.
func Apart(list []Part) (areas, values []Part) {
	for _, p := range list {
		if p.IsArea() {
			areas = append(areas, p)
		} else {
			values = append(values, p)
		}
	}
	return areas, values
}
