package block

import (
	"strings"
	"testing"

	"whittle/api"
)

func TestLay(t *testing.T) { // Promise 20.5: the k-th field of the i-th row, into the cell i rows and k columns further; rows may be of any length.
	u := opened(t, "B2", "old", "C3", "stays", "E4", "old")
	laid(t, u, "B2", `1,=B2+1,"x,y"`, "", `=SUM(B2:C2),,"""",7`)
	holds(t, u, "B2", "1", "C2", "=B2+1", "D2", "x,y", "B3", "", "C3", "stays")
	holds(t, u, "B4", "=SUM(B2:C2)", "C4", "", "D4", `"`, "E4", "7", "E2", "", "A1", "")
	laid(t, u, "T!IU65535", "1,2", "3,4")
	holds(t, u, "T!IU65535", "1", "T!IV65535", "2", "T!IU65536", "3", "T!IV65536", "4", "IV65536", "")
	laid(t, u, "A1", "")
	laid(t, u, "A1", `"=SUM(1,2)"`)
	holds(t, u, "A1", "=SUM(1,2)")
}

func TestLayFields(t *testing.T) { // Promise 20.5: what fields say, in quotes and not; text stands as it is, blanks too.
	for row, want := range map[string][]string{
		"a":              {"a"},
		"a,b,c":          {"a", "b", "c"},
		",":              {"", ""},
		"a,":             {"a", ""},
		",a":             {"", "a"},
		`""`:             {""},
		`"",""`:          {"", ""},
		`"a","b"`:        {"a", "b"},
		`"a,b",c`:        {"a,b", "c"},
		`"a""b"`:         {`a"b`},
		`""""`:           {`"`},
		`"""a""",""""""`: {`"a"`, `""`},
		`",",","`:        {",", ","},
		`",""",""",a"`:   {`,"`, `",a`},
		`a"b,c""d,"e"`:   {`a"b`, `c""d`, "e"},
		` "a", b `:       {` "a"`, " b "},
		`'"a"`:           {`'"a"`},
		`="a"&"b"`:       {`="a"&"b"`},
		`"=""a,""&B1"`:   {`="a,"&B1`},
	} {
		u := opened(t, "A1", "old", "B1", "old", "C1", "old", "D1", "old")
		laid(t, u, "A1", row)
		for i, name := range []string{"A1", "B1", "C1", "D1"} {
			text := "old"
			if i < len(want) {
				text = want[i]
			}
			if got := u.Text(at(name)); got != text {
				t.Errorf("%s: %s holds %q, want %q", row, name, got, text)
			}
		}
	}
}

func TestLayNoRows(t *testing.T) { // Promise 20.5: the place of the quote of a field without an end, or of the byte behind an end; of the first that is no row.
	u := opened(t, "A1", "1", "B1", "=A1")
	ticked(t, u, 1)
	for row, fault := range map[string]int{
		`"`: 0, `"a`: 0, `"""`: 0, `"a""`: 0, `"a,b`: 0, `a,"`: 2, `"a","b`: 4, `"","`: 3, `"a"b`: 3, `""a`: 2, `"a" `: 3, `"a" ,b`: 3, `a,"b"c,"`: 5, `"""a"b"c"`: 5, `"a,""b"c`: 7, "\"a\"\n": 3, "\"a\"\xff": 3, "\xff,\"": 2, "é,\"\"é": 5,
	} {
		noLay(t, u, at("A1"), api.Refusal{Code: api.ErrBlock, At: fault}, row)
		noLay(t, u, at("A1"), api.Refusal{Code: api.ErrBlock, At: fault}, row, row, `"`)
		noLay(t, u, at("A1"), api.Refusal{Code: api.ErrBlock, Change: 2, At: fault}, "a,b,c", `"d"`, row, `"`, "x")
	}
}

func TestLayRefused(t *testing.T) { // Promises 20.1, 20.5, R2, R5: no cell; no row; too many, or outside; what the edit refuses, in this order.
	u := opened(t, "A1", "1", "B1", "=A1", "T!A1", "=S!B1")
	ticked(t, u, 1)
	no := api.Refusal{Code: api.ErrBlock}
	for _, c := range strange() {
		none := api.Refusal{Code: api.ErrCell}
		noLay(t, u, c, none, "1")
		noLay(t, u, c, none, `"`)
		noLay(t, u, c, none)
	}
	many := strings.Repeat(",", api.MaxBlock)
	for _, rows := range [][]string{{many}, {many[1:], ""}, strings.Split(many, ","), {many, many}, {many[1:] + "=1+", "\n"}, {"=1+", many}} {
		noLay(t, u, at("A1"), no, rows...)
		noLay(t, u, at("B2"), no, rows...)
		noLay(t, u, at("IV65536"), no, rows...)
		noLay(t, u, at("A1"), api.Refusal{Code: api.ErrBlock, Change: len(rows), At: 1}, append(rows, `,"`)...)
	}
	for to, rows := range map[string][]string{"IV1": {"1,2"}, "A65536": {"1", "2"}, "IU65535": {"1", "1,2,3"}, "T!IV65535": {"1", "2", ""}, "IV9": {"=1+,"}, "IS5": {"", "\n", ",,,,=1+"}} {
		noLay(t, u, at(to), no, rows...)
		noLay(t, u, at(to), api.Refusal{Code: api.ErrBlock, Change: len(rows)}, append(rows, `"`)...)
	}
	noLay(t, u, at("A1"), api.Refusal{Code: api.ErrNone})
}

func TestLayRefusedByEdit(t *testing.T) { // Promise 20.1: what the edit refuses, its number that of the field, row by row.
	u := opened(t, "A1", "1", "B1", "=A1")
	for _, x := range []struct {
		want api.Refusal
		rows []string
	}{
		{api.Refusal{Code: api.ErrForm, At: 3}, []string{"=1+,=1+"}},
		{api.Refusal{Code: api.ErrForm, Change: 3, At: 5}, []string{"1,2", `,"=""a""+"`}},
		{api.Refusal{Code: api.ErrText, Change: 2, At: 1}, []string{",", "a\n,=1+"}},
		{api.Refusal{Code: api.ErrText, Change: 1}, []string{"a,\xff"}},
		{api.Refusal{Code: api.ErrLong, Change: 2}, []string{"", "", strings.Repeat("x", api.MaxContent+1)}},
		{api.Refusal{Code: api.ErrLong, Change: 1}, []string{"1", `"` + strings.Repeat(`""`, api.MaxContent+1) + `"`}},
		{api.Refusal{Code: api.ErrName, Change: 1}, []string{"a,=SUMM(A1)"}},
		{api.Refusal{Code: api.ErrSheet}, []string{"=X!A1"}},
	} {
		noLay(t, u, at("A1"), x.want, x.rows...)
	}
	laid(t, u, "A1", "", `"`+strings.Repeat(`""`, api.MaxContent)+`"`)
	holds(t, u, "A2", strings.Repeat(`"`, api.MaxContent))
	full(t, u)
	noLay(t, u, at("A5"), api.Refusal{Code: api.ErrFull}, "1,2")
	laid(t, u, "A2", `,"1"`)
}

func TestLayOfAll(t *testing.T) { // Promises 20.1, 20.5: MaxBlock fields, in rows of any lengths.
	for _, rows := range [][]string{{strings.Repeat("1,", api.MaxBlock-1) + "=B9"}, strings.Split(strings.Repeat("1,", api.MaxBlock-1)+"=A1", ","), {strings.Repeat(",", 99), strings.Repeat("x,", 155)}} {
		x := newTwins(t, "A1", "7", "B1", "=A1", "CV1", "8")
		x.lay(at("A1"), rows...)
		if x.u.Version() != 2 {
			t.Errorf("%.300q", rows)
		}
	}
	u := opened(t)
	laid(t, u, "IV65281", strings.Split(strings.Repeat("x,", api.MaxBlock-1)+"x", ",")...)
	holds(t, u, "IV65536", "x")
}
