package block

import (
	"fmt"
	"strings"
	"testing"

	"whittle/api"
)

// readIs holds how a row is read against the reader byte by byte.
func readIs(t *testing.T, row string) {
	t.Helper()
	var got []string
	fault, ok := readRow(row, func(k int, text string) {
		if k != len(got) {
			t.Errorf("%q: the field number %d is told as %d", row, len(got), k)
		}
		got = append(got, said(text))
	})
	want, at := byBytes(row)
	if ok != (at < 0) || ok && fault != 0 || !ok && fault != at || ok && fmt.Sprintf("%q", got) != fmt.Sprintf("%q", want) {
		t.Errorf("%q: %q, %d, %v, want %q, %d", row, got, fault, ok, want, at)
	}
}

func TestAllShortRows(t *testing.T) { // Promise 20.5: every row of the bytes that count and one that doesn't.
	rows := []string{""}
	for range 9 {
		for _, row := range rows {
			readIs(t, row)
		}
		var longer []string
		for _, row := range rows {
			longer = append(longer, row+`"`, row+",", row+"a")
		}
		rows = longer
	}
}

func TestEachByteInRows(t *testing.T) { // Promise 20.5: a comma and a quote alone mean something; a blank ahead of a quote is no quote.
	for b := range 256 {
		one := string([]byte{byte(b)})
		for _, row := range []string{one, one + ",", "," + one, one + `""`, `"` + one + `"`, `"a"` + one, `a,"b"` + one + ",", `"` + one + `,"` + one, "a" + one + "b", one + one + `"` + one + one} {
			readIs(t, row)
		}
	}
}

func TestWrittenIsRead(t *testing.T) { // Promises 20.5, 20.6: a field is written in quotes just if it must be, and says what was written.
	texts := []string{""}
	for range 7 {
		for _, text := range texts {
			var row strings.Builder
			writeField(&row, text)
			if got := row.String(); got != asField(text) {
				t.Errorf("%q is written %q, want %q", text, got, asField(text))
			}
			fields, fault := byBytes(row.String())
			if fault >= 0 || len(fields) != 1 || fields[0] != text {
				t.Errorf("%q is written %q, and read %q, %d", text, row.String(), fields, fault)
			}
		}
		var longer []string
		for _, text := range texts {
			longer = append(longer, text+`"`, text+",", text+" ")
		}
		texts = longer
	}
}

func TestReadKeepsNoMoreThanItNeeds(t *testing.T) { // R8: a row may have very many fields; what is wrong behind them is still told.
	row := strings.Repeat(`,"a",b`, 1<<20)
	fields, why := read([]string{"1", row, row})
	if len(fields) != api.MaxBlock+1 || why != (api.Refusal{}) {
		t.Error(len(fields), why)
	}
	if fields[1] != (field{1, 0, ""}) || fields[2] != (field{1, 1, `"a"`}) || fields[3] != (field{1, 2, "b"}) {
		t.Error(fields[:4])
	}
	fields, why = read([]string{"1", row, row + `,"x"y`, `"`})
	if len(fields) != 0 || why != (api.Refusal{Code: api.ErrBlock, Change: 2, At: len(row) + 4}) {
		t.Error(len(fields), why)
	}
}
