package book

import (
	"fmt"
	"slices"
	"strings"
	"testing"

	"whittle/api"
)

// The rows of chapter 11's table, one by one.

func TestExampleNew(t *testing.T) {
	var many []string
	for i := range 17 {
		many = append(many, fmt.Sprint("N", i))
	}
	for _, x := range []struct {
		names []string
		want  api.Errno
	}{{nil, api.ErrArg}, {many, api.ErrMany}, {[]string{"S", "S"}, api.ErrTwice}, {[]string{"1S"}, api.ErrLatin}, {[]string{""}, api.ErrLatin}} {
		if b, why := New(x.names...); b != nil || why != x.want {
			t.Errorf("New(%q): %v, %d, want %d", x.names, b, why, x.want)
		}
	}
}

func TestExampleEdit(t *testing.T) {
	b := opened(t)
	if r := b.Edit(put("A1", "2"), put("B1", "=A1+1")); r != (api.Refusal{}) || b.Version() != 1 {
		t.Fatal(r, b.Version())
	}
	if b.Kind(at("A1")) != api.Constant || b.Kind(at("B1")) != api.Formula || b.Len() != 2 {
		t.Error(tells(b))
	}
	if l := b.Cells(0); !slices.Equal(l, []api.Cell{at("A1"), at("B1")}) {
		t.Error("Cells(0):", l)
	}
}

func TestExampleRefused(t *testing.T) {
	b := opened(t)
	for _, x := range []struct {
		changes []api.Change
		want    api.Refusal
	}{
		{nil, api.Refusal{Code: api.ErrNone}},
		{puts("A1", "1", "A1", "2"), api.Refusal{Code: api.ErrTwice, Change: 1}},
		{[]api.Change{{Cell: api.Cell{Sheet: 2}, Text: "1"}}, api.Refusal{Code: api.ErrCell}},
		{puts("A1", "1", "B1", "=1+"), api.Refusal{Code: api.ErrForm, Change: 1, At: 3}},
		{puts("A1", "=SUMM(1)"), api.Refusal{Code: api.ErrName}},
		{puts("A1", "=U!A1"), api.Refusal{Code: api.ErrSheet}},
		{puts("A1", "ab\ncd"), api.Refusal{Code: api.ErrText, At: 2}},
		{puts("A1", strings.Repeat("x", 1025)), api.Refusal{Code: api.ErrLong}},
	} {
		refused(t, b, x.want, x.changes...)
	}
}

func TestExampleEmptied(t *testing.T) {
	b := opened(t)
	if r := b.Edit(put("A1", "")); r != (api.Refusal{}) || b.Version() != 1 || b.Len() != 0 {
		t.Error(r, b.Version(), b.Len())
	}
}

func TestExampleTexts(t *testing.T) {
	b := opened(t, put("A1", "'12"), put("B1", "= A1"))
	if b.Text(at("A1")) != "'12" || b.Constant(at("A1")) != words("12") {
		t.Error(tellsCell(b, at("A1")))
	}
	if b.Text(at("B1")) != "= A1" || b.Constant(at("B1")) != (api.Value{}) {
		t.Error(tellsCell(b, at("B1")))
	}
}
