package funcs

import (
	"fmt"
	"math"
	"slices"
	"strings"
	"testing"

	"whittle/api"
	"whittle/value"
)

const (
	top    = api.MaxNum
	bottom = api.MaxDen
)

var (
	blank   = api.Value{}
	divide  = bad(api.FaultDiv)
	valued  = bad(api.FaultValue)
	lost    = bad(api.FaultRef)
	unfit   = bad(api.FaultNum)
	none    = bad(api.FaultNA)
	long    = bad(api.FaultLong)
	wrong   = bad(api.FaultArg)
	zeroNum = api.Num{N: 0, D: 1}
)

func n(x int) api.Value { return q(x, 1) }

func q(x, d int) api.Value { return api.Value{Kind: api.Number, Num: api.Num{N: x, D: d}} }

func txt(s string) api.Value { return api.Value{Kind: api.Text, Text: s} }

func is(b bool) api.Value { return api.Value{Kind: api.Truth, True: b} }

func bad(code int) api.Value { return api.Value{Kind: api.Fault, Fault: code} }

func xs(many int) string { return strings.Repeat("x", many) }

// unright are values that are not right, of every Kind and of none.
func unright() []api.Value {
	return []api.Value{
		{Num: api.Num{N: 1, D: 1}}, {True: true}, {Text: "x"}, {Fault: 1}, q(2, 4), q(0, 2), q(1, 0), {Kind: api.Number}, q(top+1, 1), q(-top-1, 1), q(1, bottom+1), q(math.MinInt, math.MinInt), txt(xs(257)), txt("a\x1f"), txt("\x7f"), txt("\xff"), txt("\u00e9"), {Kind: api.Text, Text: "x", True: true}, {Kind: api.Truth, Fault: 5}, {Kind: api.Number, Num: zeroNum, Text: "0"}, bad(0), bad(9), bad(-1), {Kind: api.Fault, Fault: 5, True: true}, {Kind: 5}, {Kind: -1}, {Kind: math.MaxInt},
	}
}

// told is a value in short.
func told(v api.Value) string {
	if !value.Right(v) {
		return fmt.Sprintf("not right (Kind %d, %d/%d, %d bytes, %v, %d)", v.Kind, v.Num.N, v.Num.D, len(v.Text), v.True, v.Fault)
	}
	s := value.Show(v)
	switch {
	case v.Kind == api.Blank:
		return "_"
	case v.Kind == api.Text && len(v.Text) > 40:
		return fmt.Sprintf("a text of %d bytes", len(v.Text))
	case v.Kind == api.Text:
		return fmt.Sprintf("%q", v.Text)
	}
	return s
}

func tellAll(vs []api.Value) string {
	var all []string
	for _, v := range vs {
		all = append(all, told(v))
	}
	return strings.Join(all, ", ")
}

// table is the chapter's table of 7.1: class, names, Least, Most, Params.
var table = []struct {
	class       int
	names       string
	least, most int
	params      string
}{
	{api.ClassFold, "SUM PRODUCT COUNT COUNTA MIN MAX AVERAGE AND OR XOR CONCAT SUMSQ GCD FIRST LAST", 1, 30, "x"},
	{api.ClassSeek, "MATCH", 2, 2, "va"},
	{api.ClassSeek, "COUNTIF", 2, 2, "av"},
	{api.ClassSeek, "SUMIF", 2, 3, "ava"},
	{api.ClassSeek, "LOOKUP", 3, 3, "vaa"},
	{api.ClassSeek, "SUMPRODUCT", 2, 2, "a"},
	{api.ClassSeek, "INDEX", 2, 3, "av"},
	{api.ClassSeek, "ROWS COLUMNS", 1, 1, "a"},
	{api.ClassLazy, "IF", 2, 3, "v"},
	{api.ClassLazy, "IFERROR", 2, 2, "v"},
	{api.ClassLazy, "CHOOSE", 2, 30, "v"},
	{api.ClassScalar, "ABS SIGN INT NOT LEN UPPER LOWER TRIM VALUE ISNUMBER ISTEXT ISBLANK ISERROR", 1, 1, "v"},
	{api.ClassScalar, "MOD QUOTIENT POWER REPT FIND", 2, 2, "v"},
	{api.ClassScalar, "ROUND LEFT RIGHT", 1, 2, "v"},
	{api.ClassScalar, "MID", 3, 3, "v"},
	{api.ClassScalar, "NA", 0, 0, "v"},
}

// numbered are api's numbers of the functions.
var numbered = map[string]int{
	"SUM": api.FnSum, "PRODUCT": api.FnProduct, "COUNT": api.FnCount, "COUNTA": api.FnCountA, "MIN": api.FnMin, "MAX": api.FnMax, "AVERAGE": api.FnAverage, "AND": api.FnAnd, "OR": api.FnOr, "XOR": api.FnXor, "CONCAT": api.FnConcat, "SUMSQ": api.FnSumSq, "GCD": api.FnGcd, "FIRST": api.FnFirst, "LAST": api.FnLast,
	"MATCH": api.FnMatch, "COUNTIF": api.FnCountIf, "SUMIF": api.FnSumIf, "LOOKUP": api.FnLookup, "SUMPRODUCT": api.FnSumProduct, "INDEX": api.FnIndex, "ROWS": api.FnRows, "COLUMNS": api.FnColumns,
	"IF": api.FnIf, "IFERROR": api.FnIfError, "CHOOSE": api.FnChoose,
	"ABS": api.FnAbs, "SIGN": api.FnSign, "INT": api.FnInt, "ROUND": api.FnRound, "MOD": api.FnMod, "QUOTIENT": api.FnQuotient, "POWER": api.FnPower, "NOT": api.FnNot, "LEN": api.FnLen, "LEFT": api.FnLeft, "RIGHT": api.FnRight, "MID": api.FnMid, "REPT": api.FnRept, "FIND": api.FnFind, "UPPER": api.FnUpper, "LOWER": api.FnLower, "TRIM": api.FnTrim, "VALUE": api.FnValue, "ISNUMBER": api.FnIsNumber, "ISTEXT": api.FnIsText, "ISBLANK": api.FnIsBlank, "ISERROR": api.FnIsError, "NA": api.FnNA,
}

// sigs are all functions by the table, rising by their numbers.
func sigs() []api.Sig {
	var all []api.Sig
	for _, row := range table {
		for _, name := range strings.Fields(row.names) {
			all = append(all, api.Sig{Id: numbered[name], Class: row.class, Name: name, Least: row.least, Most: row.most, Params: row.params})
		}
	}
	slices.SortFunc(all, func(a, b api.Sig) int { return a.Id - b.Id })
	return all
}

func TestEverySig(t *testing.T) { // Promise 7.1.
	all := sigs()
	if len(all) != 49 || len(numbered) != 49 {
		t.Fatalf("the table has %d functions", len(all))
	}
	for _, want := range all {
		if got, ok := Of(want.Name); got != want || !ok {
			t.Fatalf("Of(%s) = %+v, %v", want.Name, got, ok)
		}
		if got, ok := ById(want.Id); got != want || !ok {
			t.Fatalf("ById(%d) = %+v, %v", want.Id, got, ok)
		}
	}
	if got := All(); !slices.Equal(got, all) {
		t.Fatalf("All tells %d functions, %v", len(got), got)
	}
}

func TestNoSuchName(t *testing.T) { // Promise 7.1.
	list := []string{"", " ", "X", "SUMM", "SU", "sum", "Sum", "SUM ", " SUM", "SUM()", "1", "TRUE", "FALSE", "SUM\x00", "\xff", xs(100000)}
	for name := range numbered {
		list = append(list, strings.ToLower(name), name+"X", "Y"+name, name+" ")
	}
	for _, name := range list {
		if got, ok := Of(name); got != (api.Sig{}) || ok {
			t.Fatalf("Of(%.20q) = %+v, %v", name, got, ok)
		}
	}
	for _, name := range []string{"I", "IFERRO", "COUN", "ISNUMBE", "N"} {
		if got, ok := Of(name); got != (api.Sig{}) || ok {
			t.Fatalf("Of(%q) = %+v, %v", name, got, ok)
		}
	}
}

func TestNoSuchNumber(t *testing.T) { // Promise 7.1.
	var taken [1000]bool
	for _, id := range numbered {
		taken[id] = true
	}
	list := []int{math.MinInt, math.MinInt + 1, -1 << 32, 1<<32 + api.FnSum, 1 << 62, math.MaxInt}
	for id := -1000; id < 1000; id++ {
		if id < 0 || !taken[id] {
			list = append(list, id)
		}
	}
	for _, id := range list {
		if got, ok := ById(id); got != (api.Sig{}) || ok {
			t.Fatalf("ById(%d) = %+v, %v", id, got, ok)
		}
	}
}

func TestAllIsNew(t *testing.T) { // Rule R3.
	all := All()
	for i := range all[:cap(all)] {
		all[:cap(all)][i] = api.Sig{Id: 99, Name: "NONE"}
	}
	if got := All(); !slices.Equal(got, sigs()) {
		t.Fatalf("All of a list that was written on tells %v", got)
	}
}
