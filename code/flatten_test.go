package code

import (
	"fmt"
	"math"
	"math/rand"
	"slices"
	"strings"
	"testing"

	"whittle/api"
	"whittle/funcs"
	"whittle/tree"
)

// refused holds that Flatten refuses a formula, and why.
func refused(t *testing.T, l []api.Node, home api.Cell, why api.Errno, sheets ...string) {
	t.Helper()
	got, code := Flatten(l, home, sheets...)
	if len(got) != 0 || code != why {
		text, _ := tree.Print(l)
		t.Fatalf("Flatten of %s in %v is %s, %d, not %d", text, home, told(got), code, why)
	}
}

// flattened holds a formula's code, in words.
func flattened(t *testing.T, formula, want string) {
	t.Helper()
	l := flat(t, formula)
	if got := told(l); got != want {
		t.Fatalf("%s is\n%s, not\n%s", formula, got, want)
	}
	isCode(t, l...)
}

func TestFlattenLeaves(t *testing.T) { // Promise 8.4: a value, a cell.
	flattened(t, "1.5", "push 1.5; store")
	flattened(t, `""`, `push ""; store`)
	flattened(t, `"a""b"`, `push "a\"b"; store`)
	flattened(t, "TRUE", "push TRUE; store")
	flattened(t, "FALSE", "push FALSE; store")
	flattened(t, "#CIRCLE!", "push #CIRCLE!; store")
	flattened(t, "$IV$65536", "load IV65536; store")
	flattened(t, "S!B2", "load B2; store")
	flattened(t, "T!$B2", "load 1!B2; store")
}

func TestFlattenOperations(t *testing.T) { // Promise 8.4: an operation.
	flattened(t, "-A1", "load A1; un 1; store")
	flattened(t, "+A1", "load A1; un 2; store")
	flattened(t, "A1%", "load A1; un 3; store")
	flattened(t, "-+-1%%", "push 1; un 3; un 3; un 1; un 2; un 1; store")
	for i, op := range []string{"+", "-", "*", "/", "^", "&"} {
		flattened(t, "B1"+op+"2", fmt.Sprintf("load B1; push 2; bin %d; store", api.OpAdd+i))
	}
	for i, op := range []string{"=", "<>", "<", "<=", ">", ">="} {
		flattened(t, "B1"+op+"2", fmt.Sprintf("load B1; push 2; bin %d; store", api.OpEq+i))
	}
	flattened(t, "1-(2-3)", "push 1; push 2; push 3; bin 12; bin 12; store")
	flattened(t, "1-2-3", "push 1; push 2; bin 12; push 3; bin 12; store")
}

func TestFlattenScalars(t *testing.T) { // Promise 8.4: a scalar, with as many arguments as it may have.
	for _, f := range funcs.All() {
		if f.Class != api.ClassScalar {
			continue
		}
		for args := f.Least; args <= f.Most; args++ {
			given := []string{"A1", "2", "B3"}[:args]
			want := strings.Join(append([]string{"load A1; ", "push 2; ", "load B3; "}[:args:args], fmt.Sprintf("call %d %d; store", f.Id, args)), "")
			flattened(t, f.Name+"("+strings.Join(given, ",")+")", want)
		}
	}
	flattened(t, "ABS(MOD(1,NA()))", "push 1; call 62 0; call 44 2; call 40 1; store")
}

func TestFlattenFolds(t *testing.T) { // Promise 8.4: a fold, of values and areas in their order.
	for _, f := range funcs.All() {
		if f.Class != api.ClassFold {
			continue
		}
		flattened(t, f.Name+"(A1:B2)", fmt.Sprintf("open %d; scan A1:B2; close; store", f.Id))
		flattened(t, f.Name+"(A1)", fmt.Sprintf("open %d; load A1; feed; close; store", f.Id))
		flattened(t, f.Name+"(1,T!B2:A1,B1+2,A1:A1)", fmt.Sprintf("open %d; push 1; feed; scan 1!A1:B2; load B1; push 2; bin 11; feed; scan A1:A1; close; store", f.Id))
		flattened(t, f.Name+"(1"+strings.Repeat(",1", 29)+")", fmt.Sprintf("open %d; %sclose; store", f.Id, strings.Repeat("push 1; feed; ", 30)))
	}
	flattened(t, "SUM(MAX(A1:A2),1)", "open 1; open 6; scan A1:A2; close; feed; push 1; feed; close; store")
}

func TestFlattenSearches(t *testing.T) { // Promise 8.4: the rows from MATCH to COLUMNS.
	flattened(t, "MATCH(B1&1,A1:A3)", "open 20; load B1; push 1; bin 16; feed; scan A1:A3; close; store")
	flattened(t, "COUNTIF(A1:A3,B1)", "open 21; load B1; feed; scan A1:A3; close; store")
	flattened(t, "SUMIF(A1:A3,B1)", "open 22; load B1; feed; scan2 A1:A3 A1:A3; close; store")
	flattened(t, "SUMIF(A1:A3,B1,T!C5:C3)", "open 22; load B1; feed; scan2 A1:A3 1!C3:C5; close; store")
	flattened(t, "LOOKUP(B1,A1:A3,T!C3:C5)", "open 23; load B1; feed; scan2 A1:A3 1!C3:C5; close; store")
	flattened(t, "SUMPRODUCT(A1:B3,T!D5:C3)", "open 24; scan2 A1:B3 1!C3:D5; close; store")
	flattened(t, "INDEX(T!B2:A1,B1)", "load B1; pick 1!A1:B2 1; store")
	flattened(t, "INDEX(A1:B2,-B1,2)", "load B1; un 1; push 2; pick A1:B2 2; store")
	flattened(t, "ROWS(C5:A3)", "push 3; store")
	flattened(t, "COLUMNS(T!B5:A3)", "push 2; store")
	flattened(t, "ROWS(A1:IV65536)", "push 65536; store")
	flattened(t, "COLUMNS(A1:IV65536)", "push 256; store")
	flattened(t, "ROWS(A1:A1)+COLUMNS(A1:A1)", "push 1; push 1; bin 11; store")
	flattened(t, "MATCH(MATCH(1,A1:A2),B1:B2)", "open 20; open 20; push 1; feed; scan A1:A2; close; feed; scan B1:B2; close; store")
}

func TestFlattenBranches(t *testing.T) { // Promise 8.4: IF, IFERROR, CHOOSE, and one in the other.
	flattened(t, "IF(A1,2,3)", "load A1; branch 4 5; push 2; jump 5; push 3; store")
	flattened(t, "IF(A1,B1+2)", "load A1; branch 6 7; load B1; push 2; bin 11; jump 7; push FALSE; store")
	flattened(t, "IF(A1,2,B1+3)", "load A1; branch 4 7; push 2; jump 7; load B1; push 3; bin 11; store")
	flattened(t, "1+IF(A1,2,3)", "push 1; load A1; branch 5 6; push 2; jump 6; push 3; bin 11; store")
	flattened(t, "IF(IF(1,2,3),IF(4,5,6),IF(7,8))", "push 1; branch 4 5; push 2; jump 5; push 3; branch 12 17; push 4; branch 10 11; push 5; jump 11; push 6; jump 17; push 7; branch 16 17; push 8; jump 17; push FALSE; store")
	flattened(t, "IFERROR(A1/B1,C1&1)", "load A1; load B1; bin 14; guard 7; load C1; push 1; bin 16; store")
	flattened(t, "IFERROR(IFERROR(1,2),IFERROR(3,4))", "push 1; guard 3; push 2; guard 7; push 3; guard 7; push 4; store")
	flattened(t, "CHOOSE(A1,5)", "load A1; choose [2] 3; push 5; store")
	flattened(t, "CHOOSE(A1,5,B1+6,7)", "load A1; choose [2 4 8] 9; push 5; jump 9; load B1; push 6; bin 11; jump 9; push 7; store")
	flattened(t, "CHOOSE(1,CHOOSE(2,3,4),5)&6", "push 1; choose [2 8] 9; push 2; choose [4 6] 7; push 3; jump 7; push 4; jump 9; push 5; push 6; bin 16; store")
	flattened(t, "SUM(IF(A1,0,2),3)", "open 1; load A1; branch 5 6; push 0; jump 6; push 2; feed; push 3; feed; close; store")
}

func TestFlattenManyChoices(t *testing.T) { // Promise 8.4: CHOOSE with MaxArgs arguments.
	l := flat(t, "CHOOSE(1"+strings.Repeat(",2", api.MaxArgs-1)+")")
	var to []int
	for k := range api.MaxArgs - 1 {
		to = append(to, 2+2*k)
	}
	if end := 2 * api.MaxArgs; len(l) != end || !slices.Equal(l[1].To, to) || l[1].B != end-1 {
		t.Fatal(told(l))
	}
	isCode(t, l...)
}

func TestFlattenIsTheModel(t *testing.T) { // Promises 8.3, 8.4: of very many formulas, right ones and wrong ones.
	r := rand.New(rand.NewSource(25))
	tally := map[api.Errno]int{}
	for range 40000 {
		l := anyFormula(r, 2+r.Intn(4))
		if r.Intn(2) == 0 {
			spoilFormula(r, l)
		}
		home := api.Cell{Sheet: r.Intn(2), Row: r.Intn(9)}
		want, why := modelFlatten(l, home, "S", "T")
		got, code := Flatten(l, home, "S", "T")
		if told(got) != told(want) || code != why {
			text, _ := tree.Print(l)
			t.Fatalf("Flatten of %s in %v is %s, %d, not %s, %d", text, home, told(got), code, told(want), why)
		}
		if code == api.OK {
			isCode(t, got...)
		}
		tally[code]++
	}
	for _, code := range []api.Errno{api.OK, api.ErrSheet, api.ErrArea, api.ErrName, api.ErrArity, api.ErrShape, api.ErrTree} {
		if tally[code] < 100 {
			t.Error("just", tally[code], "with", code)
		}
	}
}

// spoilFormula turns one or two nodes of a formula into others.
func spoilFormula(r *rand.Rand, l []api.Node) {
	for range 1 + r.Intn(2) {
		n := &l[r.Intn(len(l))]
		switch n.Kind {
		case api.NodeCell, api.NodeArea:
			if r.Intn(2) == 0 {
				n.A.Sheet = "X"
				break
			}
			a, b := anyArea(r), anyRef(r)
			*n = []api.Node{a, {Kind: api.NodeCell, A: b}}[r.Intn(2)]
		case api.NodeValue:
			*n = anyArea(r)
		case api.NodeCall:
			all := funcs.All()
			n.Name = append([]string{"F", "SUMM", "S"}, all[r.Intn(len(all))].Name)[r.Intn(4)]
			if r.Intn(8) == 0 {
				n.Args++
			}
		}
	}
}

func TestArity(t *testing.T) { // Promise 8.3: ErrArity, with too few and too many arguments of each function.
	for _, f := range funcs.All() {
		for args := range api.MaxArgs + 1 {
			l := []api.Node{{Kind: api.NodeCall, Name: f.Name, Args: args}}
			for i := range args {
				letter := f.Params[min(i, len(f.Params)-1)]
				if letter == 'a' {
					l = append(l, row(t, "A1:B2")...)
				} else {
					l = append(l, row(t, "A1")...)
				}
			}
			if args < f.Least || args > f.Most {
				refused(t, l, api.Cell{}, api.ErrArity, "S")
			} else if got, code := Flatten(l, api.Cell{}, "S"); code != api.OK || Check(got) != api.OK {
				t.Fatalf("%s with %d arguments: %d", f.Name, args, code)
			}
		}
	}
}

// argsOf is a call with the arguments that letters stand for: a an area, b one of another shape, v a value.
func argsOf(t *testing.T, name, letters string) []api.Node {
	l := []api.Node{{Kind: api.NodeCall, Name: name, Args: len(letters)}}
	for _, letter := range letters {
		l = append(l, row(t, map[rune]string{'a': "C1:D3", 'b': "C1:E2", 'v': "7"}[letter])...)
	}
	return l
}

func TestAreasInTheirPlaces(t *testing.T) { // Promise 8.3: ErrArea, ErrShape, by each row of areas and values.
	good := map[string]string{
		"SUM": "a v aa av va vv aaa aav ava avv vaa vav vva vvv ab ba bv vb", "CONCAT": "a v aa av va vv aaa aav ava avv vaa vav vva vvv ab ba",
		"MATCH": "va vb", "COUNTIF": "av bv", "SUMIF": "av bv ava bvb", "LOOKUP": "vaa vbb", "SUMPRODUCT": "aa bb", "INDEX": "av avv bv bvv", "ROWS": "a b", "COLUMNS": "a b",
		"IF": "vv vvv", "IFERROR": "vv", "CHOOSE": "vv vvv", "ABS": "v", "MOD": "vv", "ROUND": "v vv", "MID": "vvv",
	}
	shapes := map[string]string{"SUMIF": "avb bva", "LOOKUP": "vab vba", "SUMPRODUCT": "ab ba"}
	for name, forms := range good {
		f, _ := funcs.Of(name)
		for size := f.Least; size <= min(f.Most, 3); size++ {
			for _, letters := range letterRows(size, "abv") {
				want := api.ErrArea
				if slices.Contains(strings.Fields(forms), letters) {
					want = api.OK
				}
				if slices.Contains(strings.Fields(shapes[name]), letters) {
					want = api.ErrShape
				}
				if f.Class == api.ClassFold {
					want = api.OK
				}
				if _, code := Flatten(argsOf(t, name, letters), api.Cell{}, "S"); code != want {
					t.Fatalf("%s(%s): %d, not %d", name, letters, code, want)
				}
			}
		}
	}
	// Further arguments are of the last letter.
	refused(t, argsOf(t, "CHOOSE", strings.Repeat("v", 29)+"a"), api.Cell{}, api.ErrArea, "S")
	refused(t, argsOf(t, "CHOOSE", "vvvva"+strings.Repeat("v", 20)), api.Cell{}, api.ErrArea, "S")
}

// letterRows are all texts of so many of the letters.
func letterRows(size int, letters string) []string {
	list := []string{""}
	for range size {
		var longer []string
		for _, s := range list {
			for _, letter := range letters {
				longer = append(longer, s+string(letter))
			}
		}
		list = longer
	}
	return list
}

func TestShapesOfAreas(t *testing.T) { // Promise 8.3: as many rows, as many columns, whatever corners are told and wherever they lie.
	for _, x := range []struct {
		a, b string
		why  api.Errno
	}{
		{"A1:B3", "C7:D9", api.OK}, {"A1:B3", "D9:C7", api.OK}, {"A3:B1", "D7:C9", api.OK}, {"A1:B3", "T!C7:D9", api.OK}, {"$A$1:B3", "C7:$D9", api.OK},
		{"A1:B3", "A1:B2", api.ErrShape}, {"A1:B3", "A1:B4", api.ErrShape}, {"A1:B3", "A1:A3", api.ErrShape}, {"A1:B3", "A1:C3", api.ErrShape}, {"A1:B3", "A1:C2", api.ErrShape}, {"A1:A6", "A1:F1", api.ErrShape},
		{"A1:IV65536", "T!A1:IV65536", api.OK}, {"A1:IV65536", "A1:IV65535", api.ErrShape}, {"A1:IV65536", "A1:IU65536", api.ErrShape},
	} {
		for _, form := range []string{"SUMIF(%s,1,%s)", "LOOKUP(1,%s,%s)", "SUMPRODUCT(%s,%s)"} {
			for _, s := range []string{fmt.Sprintf(form, x.a, x.b), fmt.Sprintf(form, x.b, x.a)} {
				if _, code := Flatten(row(t, s), api.Cell{}, "S", "T"); code != x.why {
					t.Fatalf("%s: %d, not %d", s, code, x.why)
				}
			}
		}
	}
	// Of no other function shapes are asked for.
	flattened(t, "SUM(A1:A2,A1:B1)", "open 1; scan A1:A2; scan A1:B1; close; store")
}

func TestOrderOfErrors(t *testing.T) { // Promise 8.3: node by node, and of one node in its order.
	for _, x := range []struct {
		formula string
		why     api.Errno
	}{
		// Of one node.
		{"X!A1:B2", api.ErrSheet}, {"T!A1:B2", api.ErrArea}, {"F(A1:B2)", api.ErrName}, {"F()", api.ErrName}, {"ABS(A1:B2,1)", api.ErrArity}, {"ABS()", api.ErrArity},
		{"SUMPRODUCT(A1:A2)", api.ErrArity}, {"SUMPRODUCT(A1:A2,1)", api.ErrArea}, {"LOOKUP(A1:A2,A1:A2,A1:A3)", api.ErrArea}, {"LOOKUP(1,A1:A2,3)", api.ErrArea}, {"SUMIF(A1:A2,B1:B2,A1:A3)", api.ErrArea},
		// A node ahead of its parts.
		{"X!A1:B2+1", api.ErrArea}, {"X!A1+T!A1:B2", api.ErrArea}, {"-X!A1:B2", api.ErrArea}, {"F(X!A1)", api.ErrName}, {"F(G())", api.ErrName}, {"ABS(X!A1,2)", api.ErrArity}, {"ABS(X!A1:B2)", api.ErrArea}, {"SUMPRODUCT(X!A1:A2,X!A1:B1)", api.ErrShape}, {"MATCH(F(),2)", api.ErrArea},
		// A part ahead of the next one, with all that is in it.
		{"F()+X!A1", api.ErrName}, {"X!A1+F()", api.ErrSheet}, {"SUM()+F()", api.ErrArity}, {"-A1:B2+F()", api.ErrArea}, {"1+(2+(3+X!A1))+F()", api.ErrSheet}, {"SUM(SUM(SUM(1,F())),X!A1)", api.ErrName}, {"SUM(X!A1:B2,F())", api.ErrSheet}, {"SUM(1,MATCH(1,2),X!A1)", api.ErrArea}, {"IF(LOOKUP(1,A1:A2,A1:B1),F(),X!A1)", api.ErrShape},
		// What is never come to is asked for all the same.
		{"IF(TRUE,1,F())", api.ErrName}, {"IFERROR(1,X!A1)", api.ErrSheet}, {"CHOOSE(1,2,SUM())", api.ErrArity}, {"ROWS(X!A1:B2)", api.ErrSheet}, {"COLUMNS(1)", api.ErrArea}, {"ROWS(A1)", api.ErrArea},
	} {
		refused(t, row(t, x.formula), api.Cell{}, x.why, "S", "T")
	}
}

func TestNames(t *testing.T) { // Promise 8.3: ErrName, of names that are no function's.
	for _, name := range []string{"SU", "SUMM", "A1", "TRUE", "FALSE", "IFS", "X", "NOW", "SUM1", "COUNTIFA"} {
		for args := range 3 {
			refused(t, argsOf(t, name, "av"[:args]), api.Cell{}, api.ErrName, "S")
		}
	}
}

func TestSheets(t *testing.T) { // Promise 8.3: a sheet's number is the first place of its name among the first MaxSheets.
	cell := func(sheet string) []api.Node { return []api.Node{{Kind: api.NodeCell, A: api.Ref{Sheet: sheet}}} }
	at := func(home int, sheet, want string, names ...string) {
		t.Helper()
		if l, code := Flatten(cell(sheet), api.Cell{Sheet: home}, names...); told(l) != want || code != api.OK {
			t.Fatalf("%q in %d of %q: %s, %d, not %s", sheet, home, names, told(l), code, want)
		}
		// An area's sheet is its first corner's.
		l := []api.Node{{Kind: api.NodeCall, Name: "SUM", Args: 1}, {Kind: api.NodeArea, A: cell(sheet)[0].A}}
		want = "open 1; scan " + strings.TrimSuffix(strings.TrimPrefix(want, "load "), "; store") + ":A1; close; store"
		if l, code := Flatten(l, api.Cell{Sheet: home}, names...); told(l) != want || code != api.OK {
			t.Fatalf("an area of %q in %d of %q: %s, %d, not %s", sheet, home, names, told(l), code, want)
		}
	}
	at(0, "", "load A1; store", "S")
	at(2, "", "load 2!A1; store", "S", "T", "U")
	at(2, "", "load 2!A1; store", "S", "S", "S")
	at(2, "S", "load A1; store", "S", "S", "S")
	at(0, "T", "load 1!A1; store", "S", "T", "T")
	at(1, "S", "load A1; store", "S", "T", "S")
	// The empty Sheet is home's, whatever names there are; names may be any texts.
	at(1, "", "load 1!A1; store", "", "T")
	at(1, "T", "load 1!A1; store", "not a name", "T", "\x00")
	for _, name := range []string{"s", "SS", "A1", "X"} {
		refused(t, cell(name), api.Cell{}, api.ErrSheet, "S", "T", "")
	}
	var many []string
	for i := range api.MaxSheets + 5 {
		many = append(many, fmt.Sprint("N", i))
	}
	for i, name := range many {
		if i < api.MaxSheets {
			at(i, name, "load "+cellName(api.Cell{Sheet: i})+"; store", many...)
			continue
		}
		refused(t, cell(name), api.Cell{}, api.ErrSheet, many...)
		refused(t, cell(name), api.Cell{Sheet: api.MaxSheets - 1}, api.ErrSheet, many...)
	}
	// A name that stands among the first ones and behind them is that of the first ones.
	many[api.MaxSheets] = "N3"
	at(0, "N3", "load 3!A1; store", many...)
}

func TestHome(t *testing.T) { // Promise 8.3: the error of tree.Check, ErrCell, ErrSheet, in this order.
	wrong, right := row(t, "F(X!A1)"), row(t, "A1")
	cells := []api.Cell{{Sheet: -1}, {Sheet: api.MaxSheets}, {Sheet: math.MaxInt}, {Row: -1}, {Col: -1}, {Row: api.MaxRows}, {Col: api.MaxCols}, {Row: math.MinInt}, {Sheet: 5, Row: -1}}
	for _, home := range cells {
		var many []string
		for i := range api.MaxSheets + 5 {
			many = append(many, fmt.Sprint("N", i))
		}
		refused(t, nil, home, api.ErrTree)
		refused(t, right, home, api.ErrCell)
		refused(t, right, home, api.ErrCell, many...)
		refused(t, wrong, home, api.ErrCell, "S")
	}
	for sheets := range 4 {
		names := []string{"S", "T", "U"}[:sheets]
		for home := range api.MaxSheets {
			c := api.Cell{Sheet: home, Row: api.MaxRows - 1, Col: api.MaxCols - 1}
			if home >= sheets {
				refused(t, right, c, api.ErrSheet, names...)
				refused(t, wrong, c, api.ErrSheet, names...)
				refused(t, nil, c, api.ErrTree, names...)
				continue
			}
			refused(t, wrong, c, api.ErrName, names...)
			if _, code := Flatten(right, c, names...); code != api.OK {
				t.Fatal(c, names, code)
			}
		}
	}
}

func TestNoTrees(t *testing.T) { // Promise 8.3: the error of tree.Check.
	v := row(t, "1")[0]
	neg := api.Node{Kind: api.NodeUn, Op: api.OpNeg}
	for _, l := range [][]api.Node{nil, {}, {{}}, {v, v}, {neg}, {{Kind: api.NodeBin, Op: api.OpAdd}, v}, {{Kind: api.NodeUn, Op: api.OpAdd}, v}, {{Kind: api.NodeCall, Name: "SUM", Args: 2}, v}, {{Kind: api.NodeCall, Name: "sum", Args: 1}, v}, {{Kind: api.NodeCall, Name: "F", Args: -1}}, {{Kind: api.NodeCall, Name: "F", Args: 31}}, {{Kind: api.NodeValue}}, {{Kind: api.NodeCell, A: api.Ref{Row: -1}}}, {{Kind: api.NodeCell, A: api.Ref{Sheet: "a b"}}}, {{Kind: api.NodeArea, B: api.Ref{Sheet: "S"}}}, {{Kind: 7}}} {
		refused(t, l, api.Cell{}, api.ErrTree, "S")
		refused(t, l, api.Cell{Row: -1}, api.ErrTree)
	}
	deep := append(slices.Repeat([]api.Node{neg}, api.MaxDeep-1), v)
	if l, code := Flatten(deep, api.Cell{}, "S"); len(l) != api.MaxDeep+1 || code != api.OK {
		t.Fatal(told(l), code)
	}
	refused(t, append([]api.Node{neg}, deep...), api.Cell{}, api.ErrDeep, "S")
	refused(t, append([]api.Node{neg}, deep...), api.Cell{Row: -1}, api.ErrDeep)
	refused(t, make([]api.Node, api.MaxNodes+1), api.Cell{Row: -1}, api.ErrNodes)
}

func TestGreatestFormulas(t *testing.T) { // Promises 8.3, 8.7: MaxNodes nodes, and branches as deep as may be.
	sums := "SUM(1" + strings.Repeat(",1", 29) + ")" // 31 nodes
	l := row(t, "CONCAT("+strings.Repeat(sums+",", 8)+"1,1,1,1,1,1,1)")
	if len(l) != api.MaxNodes {
		t.Fatal("the test's formula has", len(l), "nodes")
	}
	got, code := Flatten(l, api.Cell{}, "S")
	if code != api.OK || Check(got) != api.OK || len(got) != 8*(30*2+3)+7*2+3 {
		t.Fatal(len(got), code)
	}
	deep := "1"
	for i := range api.MaxDeep - 1 {
		deep = []string{"IF(2," + deep + ",3)", "IFERROR(" + deep + ",4)", "CHOOSE(5,6," + deep + ",7)", "SUM(A1:A2," + deep + ")", "IF(" + deep + ",8)"}[i%5]
	}
	l = row(t, deep)
	want, _ := modelFlatten(l, api.Cell{}, "S")
	if got, code := Flatten(l, api.Cell{}, "S"); told(got) != told(want) || code != api.OK {
		t.Fatal(told(got), code)
	}
	isCode(t, want...)
}
