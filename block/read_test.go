package block

import (
	"strings"
	"testing"

	"whittle/api"
	"whittle/place"
	"whittle/undo"
)

func TestText(t *testing.T) { // Promise 20.6: contents as they stand, in quotes just with a comma in them or a quote ahead.
	u := opened(t, "A1", "1.50", "B1", "a,b", "C1", `"a"`, "A2", `a"b`, "C2", "=SUM( A1,2)", "A3", "'12", "B3", ` ",`, "C3", `="x"&B1`, "D3", "beside", "T!B2", "8")
	textIs(t, u, "A1:C3", `1.50,"a,b","""a"""`, `a"b,,"=SUM( A1,2)"`, `'12," "",",="x"&B1`)
	textIs(t, u, "B2:B2", "")
	textIs(t, u, "B2:C2", `,"=SUM( A1,2)"`)
	textIs(t, u, "Y9:Z11", ",", ",", ",")
	textIs(t, u, "T!A2:B3", ",8", ",")
	textIs(t, u, "A1:A3", "1.50", `a"b`, "'12")
	settle(t, u) // what is stale makes no difference
	textIs(t, u, "A2:C2", `a"b,,"=SUM( A1,2)"`)
}

func TestTable(t *testing.T) { // Promise 20.6: a fresh cell's value as value.Show shows it, ~ ahead of what a stale one tells that says Ever, ? of one that doesn't.
	u := opened(t, "A1", "1.50", "B1", "a,b", "C1", `"a"`, "A2", "'12", "B2", `'"`, "C2", "'", "A3", "FALSE", "B3", "#N/A", "C3", "=C3", "A4", "'=A1", "B4", "'''x")
	tableIs(t, u, "A1:C4", `1.5,"a,b","""a"""`, `'12,"""",'`, "FALSE,#N/A,#CIRCLE!", "'=A1,'''x,")
	edited(t, u, "D1", "=A1", "D2", "=B1", "D3", "=C1", "D4", "=A2", "E1", "=C2", "E2", "=A9", "E3", "=A3", "E4", "=B3", "F1", `="="`, "F2", "=A1/0", "F3", "=1/3", "F4", `=","&C1`)
	tableIs(t, u, "D1:F4", "?,?,?", "?,?,?", "?,?,?", "?,?,?")
	settle(t, u)
	tableIs(t, u, "D1:F4", "1.5,','=", `"a,b",,#DIV/0!`, `"""a""",FALSE,1/3`, `'12,#N/A,",""a"""`)
	edited(t, u, "A1", "2", "B1", "2", "C1", "2", "A2", "2", "C2", "2", "A9", "2", "A3", "2", "B3", "2", "F1", "=A9", "F3", "=A9")
	tableIs(t, u, "D1:F4", "~1.5,~',~'=", `"~a,b",~,~#DIV/0!`, `~"a",~FALSE,~1/3`, `~'12,~#N/A,"~,""a"""`)
	edited(t, u, "C3", "=A1", "F2", "", "F4", "7")
	tableIs(t, u, "C3:F4", `~#CIRCLE!,~"a",~FALSE,~1/3`, ",~'12,~#N/A,7")
	tableIs(t, u, "F2:F2", "")
	settle(t, u)
	tableIs(t, u, "C1:F4", "2,2,2,2", "2,2,2,", "2,2,2,2", ",2,2,7")
}

func TestTableInMidFlight(t *testing.T) { // Promise 20.6: a cell whose frame is under way is stale; reading turns nothing.
	u := opened(t, "A1", "2", "B1", "=SUM(A1:A9)", "C1", "=B1", "T!A1", "=S!C1")
	settle(t, u)
	edited(t, u, "A2", "5", "D1", "=B1")
	ticked(t, u, 3)
	tableIs(t, u, "A1:D1", "2,~2,~2,?")
	tableIs(t, u, "T!A1:B1", "~2,")
	if p, on := u.Parked(0); !on || p != (api.Parked{Cell: at("B1"), Steps: 3}) {
		t.Error(p, on)
	}
	ticked(t, u, 9)
	tableIs(t, u, "A1:D1", "2,7,~2,?")
	settle(t, u)
	tableIs(t, u, "A1:D1", "2,7,7,7")
	tableIs(t, u, "T!A1:A1", "7")
}

func TestTextAndTableRefused(t *testing.T) { // Promise 20.6, R5: no rows of what is no block, and nothing is turned.
	u := opened(t, "A1", "1", "B1", "=A1", "T!A1", "=S!B1")
	ticked(t, u, 1)
	ahead := tells(u)
	for _, a := range noBlocks() {
		if rows, why := Text(u, a); rows != nil || why != api.ErrBlock {
			t.Errorf("Text(%v): %q, %d", a, rows, why)
		}
		if rows, why := Table(u, a); rows != nil || why != api.ErrBlock {
			t.Errorf("Table(%v): %q, %d", a, rows, why)
		}
	}
	if tells(u) != ahead {
		t.Error("something is turned")
	}
}

func TestTextAndTableOfAll(t *testing.T) { // Promises 20.1, 20.6: MaxBlock cells, in each shape, with contents as long as may be.
	for _, a := range []string{"A1:IV1", "IV65281:IV65536", "IG65521:IV65536", "T!A1:H32"} {
		x := newTwins(t)
		for k := range api.MaxBlock {
			c, _ := place.At(area(a), k)
			text := strings.Repeat([]string{`"`, ",", "x", "'"}[k%4], api.MaxContent-k)
			for _, u := range []*undo.Undo{x.u, x.beside} {
				if r := u.Edit(api.Change{Cell: c, Text: text}); r != (api.Refusal{}) {
					t.Fatal(r)
				}
			}
		}
		x.read(area(a))
	}
}
