package block

import (
	"testing"

	"whittle/api"
	"whittle/undo"
)

func TestExamples(t *testing.T) { // Each row by itself.
	no := api.Refusal{Code: api.ErrBlock}
	for _, row := range []func(u *undo.Undo){
		func(u *undo.Undo) {
			copied(t, u, "A1:B1", "A2")
			holds(t, u, "A1", "1", "B1", "=A1+1", "A2", "1", "B2", "=A2+1")
		},
		func(u *undo.Undo) {
			copied(t, u, "A1:B1", "A1")
			holds(t, u, "A1", "1", "B1", "=A1+1")
			noCopy(t, u, area("A1:B1"), at("IV1"), no)
		},
		func(u *undo.Undo) {
			filled(t, u, "B1", "B1:B3")
			holds(t, u, "B1", "=A1+1", "B2", "=A2+1", "B3", "=A3+1")
		},
		func(u *undo.Undo) {
			refused(t, u, "Clear(A1:IV65536)", no, func() api.Refusal { return Clear(u, area("A1:IV65536")) })
			cleared(t, u, "A1:B1")
			holds(t, u, "A1", "", "B1", "")
		},
		func(u *undo.Undo) {
			laid(t, u, "C1", `1,"a,b"`, "=A1")
			holds(t, u, "C1", "1", "D1", "a,b", "C2", "=A1", "D2", "")
			textIs(t, u, "C1:D2", `1,"a,b"`, "=A1,")
		},
		func(u *undo.Undo) {
			noLay(t, u, at("C1"), api.Refusal{Code: api.ErrBlock, Change: 1}, "1", `"a`)
			noLay(t, u, at("C1"), api.Refusal{Code: api.ErrBlock, At: 3}, `"a"b`)
			noLay(t, u, at("C1"), api.Refusal{Code: api.ErrNone})
		},
		func(u *undo.Undo) {
			tableIs(t, u, "A1:B1", "1,?")
			ticked(t, u, 99)
			tableIs(t, u, "A1:B1", "1,2")
			edited(t, u, "A1", "5")
			tableIs(t, u, "A1:B1", "5,~2")
		},
	} {
		u, why := undo.New("S")
		if u == nil || why != api.OK {
			t.Fatal(why)
		}
		if r := u.Edit(put("A1", "1"), put("B1", "=A1+1")); r != (api.Refusal{}) {
			t.Fatal(r)
		}
		row(u)
	}
}
