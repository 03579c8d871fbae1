package image

import (
	"bytes"
	"testing"

	"whittle/api"
)

func TestExamples(t *testing.T) { // Each row of the table.
	stands(t, api.State{Sheets: []string{"S"}, Views: [][]api.Area{{}}, Frames: []api.Flight{{}}}, []byte{0x57, 0x48, 0x54, 0x31, 0x01, 0x01, 0x53, 0x00, 0x00, 0x01, 0x00, 0x01, 0x00})

	b, why := Encode(ofValue(n(1, 2)))
	if !bytes.Contains(b, []byte{0x01, 0x02, 0x02}) || why != api.OK {
		t.Errorf("% x, %d", b, why)
	}
	stands(t, ofValue(n(1, 2)), valueBytes(0x01, 0x02, 0x02))

	unread(t, []byte{0x57, 0x48, 0x54}, api.ErrImage, 3)
	unread(t, []byte{0x57, 0x48, 0x54, 0x32}, api.ErrImage, 0)
	unread(t, []byte{0x57, 0x48, 0x54, 0x31, 0x80, 0x00}, api.ErrImage, 4)

	v := opened(t, "B1", "=SUM(A1:A9)")
	ticked(t, v, 0, 5, 5)
	w := again(t, v)
	if p, on := w.Parked(0); !on || p != (api.Parked{Cell: at("B1"), Steps: 5}) {
		t.Error(p, on)
	}
	ticked(t, w, 0, 99, 7)
	if !w.Idle() {
		t.Error("more steps are left")
	}
}
