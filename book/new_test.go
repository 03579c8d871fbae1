package book

import (
	"fmt"
	"slices"
	"strings"
	"testing"

	"whittle/api"
)

// named are n names.
func named(n int) []string {
	var l []string
	for i := range n {
		l = append(l, fmt.Sprint("N", i))
	}
	return l
}

// noNames are texts that are no sheet's names.
func noNames() []string {
	l := []string{"", "1", "1S", "9a", "A b", " A", "A ", "A$", "$A", "A!", "A_B", "A.B", "A-B", "'A'", "A\n", "\x00", "\x7f", "A\x80", "É", "Aé", "=A", "A:B", "A" + strings.Repeat("a", api.MaxName)}
	// All bytes beside the letters and digits, and those just beside their ranges among them.
	for b := range 256 {
		s := "A" + string([]byte{byte(b)})
		if !strings.ContainsAny(s[1:], "ABCDEFGHIJKLMNOPQRSTUVWXYZabcdefghijklmnopqrstuvwxyz0123456789") || b > 127 {
			l = append(l, s, s[1:])
		}
	}
	return l
}

func TestNewRefusesNames(t *testing.T) { // Promise 11.1: ErrLatin, ErrTwice, name by name.
	for _, name := range noNames() {
		for _, l := range [][]string{{name}, {name, "S"}, {"S", name}, {"S", name, "S"}, {"S", "T", name}, {name, name}} {
			if b, why := New(l...); b != nil || why != api.ErrLatin {
				t.Errorf("New(%q): %d", l, why)
			}
		}
		if b, why := New("S", "S", name); b != nil || why != api.ErrTwice {
			t.Errorf("New(S, S, %q): %d", name, why)
		}
	}
}

func TestNewRefusesTwice(t *testing.T) { // Promise 11.1: a name that stands ahead already, at each place.
	for i := range api.MaxSheets {
		for k := range i {
			l := named(api.MaxSheets)
			l[i] = l[k]
			if b, why := New(l...); b != nil || why != api.ErrTwice {
				t.Errorf("New(%q): %d", l, why)
			}
		}
	}
}

func TestNewCounts(t *testing.T) { // Promise 11.1: none is ErrArg, more than MaxSheets ErrMany, whatever they are.
	if b, why := New(); b != nil || why != api.ErrArg {
		t.Error("New():", why)
	}
	if b, why := New([]string{}...); b != nil || why != api.ErrArg {
		t.Error("New of an empty list:", why)
	}
	for n := 1; n <= api.MaxSheets; n++ {
		if b, why := New(named(n)...); b == nil || why != api.OK || !slices.Equal(b.Sheets(), named(n)) {
			t.Errorf("New of %d names: %d", n, why)
		}
	}
	one := named(api.MaxSheets + 1)
	for _, l := range [][]string{one, named(100), make([]string, 17), append([]string{"1"}, one...), append([]string{"S", "S"}, one...)} {
		if b, why := New(l...); b != nil || why != api.ErrMany {
			t.Errorf("New of %d names: %d", len(l), why)
		}
	}
}

func TestNewIsEmpty(t *testing.T) { // Promise 11.1: all cells are empty, the version is 0.
	b := made(t, "S", "T", "U")
	if b.Version() != 0 || b.Len() != 0 {
		t.Error("version", b.Version(), "len", b.Len())
	}
	for sheet := -1; sheet < 4; sheet++ {
		if l := b.Cells(sheet); len(l) != 0 {
			t.Errorf("Cells(%d): %v", sheet, l)
		}
		c := api.Cell{Sheet: sheet}
		if b.Kind(c) != api.Empty || b.Text(c) != "" || b.Constant(c) != (api.Value{}) || len(b.Code(c)) != 0 || len(b.Uses(c)) != 0 {
			t.Error(tellsCell(b, c))
		}
	}
}

func TestSheet(t *testing.T) { // Promise 11.1: Sheets in their order, Sheet the number of each, -1 of no name.
	l := []string{"s", "S", "ABCDEFGHIJKLMNOP", "TRUE", "A1", "z9", "SUM", "aA0", "x"}
	b := made(t, l...)
	if !slices.Equal(b.Sheets(), l) {
		t.Errorf("%q", b.Sheets())
	}
	for i, name := range l {
		if n := b.Sheet(name); n != i {
			t.Errorf("Sheet(%q): %d", name, n)
		}
	}
	for _, name := range append(noNames(), "true", "True", "Z9", "X", "a1", "ABCDEFGHIJKLMNO", "ABCDEFGHIJKLMNOPQ", "abcdefghijklmnop", "sS", "0") {
		if n := b.Sheet(name); n != -1 {
			t.Errorf("Sheet(%q): %d", name, n)
		}
	}
}

func TestCellsOfTheBook(t *testing.T) { // Promise 11.1: a cell's sheet must be one of the book's.
	for n := 1; n <= api.MaxSheets; n++ {
		b := made(t, named(n)...)
		for sheet := range api.MaxSheets + 1 {
			corner := api.Cell{Sheet: sheet, Row: api.MaxRows - 1, Col: api.MaxCols - 1}
			change := api.Change{Cell: corner, Text: "x"}
			if sheet < n {
				taken(t, b, change)
				continue
			}
			refused(t, b, api.Refusal{Code: api.ErrCell}, change)
		}
		if b.Len() != n || b.Version() != n {
			t.Error(n, "sheets:", b.Len(), "cells, version", b.Version())
		}
	}
}
