package image

import (
	"bytes"
	"slices"
	"testing"

	"whittle/api"
)

func TestTooLong(t *testing.T) { // Promise 21.4: more than MaxImage bytes are ErrLong at 0, ahead of all else; MaxImage are not.
	unread(t, make([]byte, api.MaxImage+1), api.ErrLong, 0)
	unread(t, append(whole(0x80, 0), make([]byte, api.MaxImage)...), api.ErrLong, 0)
	unread(t, append(whole(0, 0, 0, 0, 0), make([]byte, api.MaxImage-8)...), api.ErrLong, 0)
	unread(t, append(whole(0, 0, 0, 0, 0), make([]byte, api.MaxImage-9)...), api.ErrImage, 9)
	unread(t, make([]byte, api.MaxImage), api.ErrImage, 0)
	b := make([]byte, api.MaxImage-8)
	unread(t, append(whole(0x80, 0), b...)[:api.MaxImage], api.ErrImage, 4)
}

func TestHeads(t *testing.T) { // Promise 21.4: other first four bytes, if they are there, at 0; else at the end.
	unread(t, nil, api.ErrImage, 0)
	unread(t, []byte{}, api.ErrImage, 0)
	for _, s := range []string{"W", "WH", "WHT", "X", "XX", "\x00\x00\x00", "wht"} {
		unread(t, []byte(s), api.ErrImage, len(s))
	}
	for i := range 4 {
		for _, with := range []byte{0, ' ', '2', 'w', 'X', 0xff} {
			b := whole(0, 0, 0, 0, 0)
			b[i] = with
			for k := 4; k <= len(b); k++ {
				unread(t, b[:k], api.ErrImage, 0)
			}
		}
	}
	unread(t, []byte(" WHT1"), api.ErrImage, 0)
	unread(t, append(whole(), whole(0, 0, 0, 0, 0)...), api.ErrImage, 13)
}

// holes are small images with a number where the hole is, in each place of the bytes that has a number or an int. (The bytes behind it are many, lest they end.)
func holes() [][2][]byte {
	behind := bytes.Repeat([]byte{7}, 40)
	var l [][2][]byte
	for _, ahead := range [][]byte{
		whole(), whole(1), whole(0), whole(0, 0), whole(0, 0, 0), whole(0, 0, 0, 1), whole(0, 0, 0, 0), // counts, a text, the Version
		whole(0, 0, 1), whole(0, 0, 1, 0), whole(0, 0, 1, 0, 0), whole(0, 0, 1, 0, 0, 0), // a cell, a text
		whole(0, 0, 1, 0, 0, 0, 0, 0, 1), whole(0, 0, 1, 0, 0, 0, 0, 0, 1, 0), whole(0, 0, 1, 0, 0, 0, 0, 0, 2), whole(0, 0, 1, 0, 0, 0, 0, 0, 0, 0), // a value, the cell's Version
		whole(0, 0, 0, 1, 1), whole(0, 0, 0, 1, 1, 0), whole(0, 0, 0, 1, 1, 0, 0), whole(0, 0, 0, 1, 1, 0, 0, 0), whole(0, 0, 0, 1, 1, 0, 0, 0, 0), // an area
		whole(0, 0, 0, 0, 1, 1), whole(0, 0, 0, 0, 1, 1, 0), whole(0, 0, 0, 0, 1, 1, 0, 0), frameBytes(), frameBytes(0), frameBytes(0, 0), frameBytes(0, 0, 0), frameBytes(0, 0, 0, 0), // a frame
		frameBytes(0, 0, 0, 1), frameBytes(0, 0, 0, 1, 0), frameBytes(0, 0, 0, 1, 0, 0), frameBytes(0, 0, 0, 1, 0, 0, 0), frameBytes(0, 0, 0, 1, 0, 0, 0, 0, 0, 0, 0, 0, 0), frameBytes(0, 0, 0, 1, 0, 0, 0, 0, 0, 0, 0, 0, 0, 0), // a fold
	} {
		l = append(l, [2][]byte{ahead, behind})
	}
	return l
}

func TestBadNumbers(t *testing.T) { // Promise 21.4: more than nine bytes, above 2^62, a last group 0 behind another one: at the number's first byte, in each place.
	for _, hole := range holes() {
		for _, number := range [][]byte{
			{0x80, 0}, {0xff, 0}, {0x81, 0x80, 0}, {0x80, 0x80, 0x80, 0x80, 0x80, 0x80, 0x80, 0x80, 0},
			{0x81, 0x80, 0x80, 0x80, 0x80, 0x80, 0x80, 0x80, 0x40}, {0x80, 0x80, 0x80, 0x80, 0x80, 0x80, 0x80, 0x80, 0x41}, {0x80, 0x80, 0x80, 0x80, 0x80, 0x80, 0x80, 0x80, 0x7f}, {0xff, 0xff, 0xff, 0xff, 0xff, 0xff, 0xff, 0xff, 0x7f}, {0x80, 0x80, 0x80, 0x80, 0x80, 0x80, 0x80, 0x81, 0x40},
			{0x80, 0x80, 0x80, 0x80, 0x80, 0x80, 0x80, 0x80, 0x80, 1}, {0xff, 0xff, 0xff, 0xff, 0xff, 0xff, 0xff, 0xff, 0xff, 0x7f}, {0x80, 0x80, 0x80, 0x80, 0x80, 0x80, 0x80, 0x80, 0x80, 0},
			{0x80, 0x80, 0x80, 0x80, 0x80, 0x80, 0x80, 0x80, 0xc0, 0x80, 0x80, 0x80, 1}, bytes.Repeat([]byte{0x80}, 30), bytes.Repeat([]byte{0xff}, 9),
		} {
			unread(t, join(hole[0], number, hole[1]), api.ErrImage, len(hole[0]))
			if end := join(hole[0], number); len(number) != 9 || number[8] < 128 {
				unread(t, end, api.ErrImage, len(hole[0]))
			}
		}
	}
}

func TestNumbersWithoutEnd(t *testing.T) { // Promise 21.4: where a number of nine bytes at most has no end, the bytes end too early; behind the ninth no end could make it one.
	for _, hole := range holes() {
		for k := range 9 {
			b := join(hole[0], bytes.Repeat([]byte{0x80}, k))
			unread(t, b, api.ErrImage, len(b))
		}
		for k := 9; k < 12; k++ {
			unread(t, join(hole[0], bytes.Repeat([]byte{0x80}, k)), api.ErrImage, len(hole[0]))
		}
	}
}

func TestBadTruths(t *testing.T) { // Promise 21.4: at the byte of a truth that is neither 0 nor 1, in each place.
	rest := make([]byte, 30)
	for _, ahead := range [][]byte{
		whole(0, 0, 1, 0, 0, 0, 0), whole(0, 0, 1, 1, 2, 3, 2, 'x', 'y'), whole(0, 0, 1, 0, 0, 0, 0, 0, 0), whole(0, 0, 1, 0, 0, 0, 0, 0, 3), // a cell's Stale, Ever, True
		whole(0, 0, 0, 0, 1), whole(0, 0, 0, 0, 3, 0, 0), frameBytes(0, 0, 0, 0, 0), frameBytes(0, 0, 1, 3), // On, Done, on a stack
		frameBytes(0, 0, 0, 1, 0, 0, 0, 0, 0, 0), frameBytes(0, 0, 0, 1, 0, 0, 0, 0, 0, 0, 1), frameBytes(0, 0, 0, 1, 0, 0, 0, 0, 0, 0, 1, 0), // a fold's
	} {
		for b := 2; b < 256; b++ {
			unread(t, join(ahead, []byte{byte(b)}, rest), api.ErrImage, len(ahead))
		}
		unread(t, append(slices.Clone(ahead), 2), api.ErrImage, len(ahead))
	}
}

func TestBadKinds(t *testing.T) { // Promise 21.4: at the byte of a Kind that there is not, in each place; the byte of a Fault may be any.
	rest := make([]byte, 30)
	for _, ahead := range [][]byte{
		whole(0, 0, 1, 0, 0, 0, 0, 1), frameBytes(0, 0, 1), frameBytes(0, 0, 3, 0, 1, 5, 6), frameBytes(0, 0, 0, 1, 0, 0, 0, 0), frameBytes(0, 0, 0, 1, 0, 0, 0, 0, 2, 1, 'x'),
	} {
		for b := 5; b < 256; b++ {
			unread(t, join(ahead, []byte{byte(b)}, rest), api.ErrImage, len(ahead))
		}
		unread(t, append(slices.Clone(ahead), 5), api.ErrImage, len(ahead))
	}
	for b := range 256 {
		stands(t, ofValue(bad(b)), valueBytes(4, byte(b)))
	}
}

func TestTooFew(t *testing.T) { // Promise 21.4: a list or a text that says that it has more than bytes are left, at the end, whatever is wrong between.
	for _, x := range []struct {
		ahead []byte
		each  int // bytes that a part has at least
	}{
		{whole(), 1}, {whole(1), 1}, {whole(0, 0), 8}, {whole(0, 0, 0), 1}, {whole(0, 0, 0, 1), 5}, {whole(0, 0, 0, 0), 1},
		{whole(0, 0, 1, 0, 0, 0), 1}, {whole(0, 0, 1, 0, 0, 0, 0, 0, 2), 1}, {frameBytes(0, 0), 1}, {frameBytes(0, 0, 0), 11}, {frameBytes(0, 0, 0, 1, 0, 0, 0, 0, 2), 1},
	} {
		for left := range 14 {
			for _, with := range []byte{0, 0xff} {
				rest := bytes.Repeat([]byte{with}, left)
				b := join(x.ahead, []byte{byte(left + 1)}, rest)
				unread(t, b, api.ErrImage, len(b))
				for _, k := range []int{left + 1, left + 2, 1 << 20, 1 << 31, 1 << 32, 1<<62 - 1, 1 << 62} {
					b := join(x.ahead, numberBytes(k), rest)
					unread(t, b, api.ErrImage, len(b))
				}
			}
		}
		for parts := 1; parts < 9; parts++ { // as many bytes as parts, or more, and yet too few
			for left := parts; left < parts*x.each; left++ {
				b := join(x.ahead, []byte{byte(parts)}, make([]byte, left))
				unread(t, b, api.ErrImage, len(b))
			}
		}
	}
	unread(t, whole(2, 3, 'a', 'b', 'c'), api.ErrImage, 9)
	unread(t, whole(1, 4, 'a', 'b', 'c'), api.ErrImage, 9)
	unread(t, append(whole(0, 0), 9, 0xff, 0xff), api.ErrImage, 9)
}

func TestBehind(t *testing.T) { // Promise 21.4: at the first byte behind the last Frame.
	for _, b := range [][]byte{whole(0, 0, 0, 0, 0), versionBytes(longest()...), valueBytes(4, 255), areaBytes(1, 2, 3, 4, 5), frameBytes(0, 0, 0, 0, 0, 0), foldBytes(0, 0, 0, 0, 0, 0, 0, 0, 0, 0, 0)} {
		if _, why, _ := Decode(b); why != api.OK {
			t.Fatalf("% x: %d", b, why)
		}
		for with := range 256 {
			unread(t, append(slices.Clone(b), byte(with)), api.ErrImage, len(b))
		}
		unread(t, join(b, make([]byte, 300)), api.ErrImage, len(b))
		unread(t, join(b, b), api.ErrImage, len(b))
	}
}

func TestFirstBad(t *testing.T) { // Promise 21.4: it is read from the left: the first of several bad bytes is told.
	unread(t, []byte("WHT2\x80\x00"), api.ErrImage, 0)
	unread(t, heldBytes(0x80, 0, 0x80, 0, 0), api.ErrImage, 7)
	unread(t, heldBytes(0, 0, 0x80, 0, 0), api.ErrImage, 9)
	unread(t, heldBytes(0, 0, 0, 0, 2, 9, 2, 0), api.ErrImage, 11)
	unread(t, heldBytes(0, 0, 0, 0, 1, 9, 2, 0), api.ErrImage, 12)
	unread(t, heldBytes(0, 0, 0, 0, 1, 0, 2, 0), api.ErrImage, 13)
	unread(t, whole(0, 0, 1, 0, 0, 0, 0, 2), api.ErrImage, 11) // and then they end
	unread(t, whole(1, 9, 2, 2), api.ErrImage, 8)              // they end, ahead of a bad truth
}

func TestEmptyLists(t *testing.T) { // R3: nil and an empty list are one: an empty one has a byte, and is read as none.
	s, why, at := Decode(whole(0, 0, 0, 1, 0, 1, 1, 0, 0, 0, 1, 1, 0, 0, 0, 0))
	if why != api.OK || at != 0 || len(s.Views) != 1 || len(s.Frames) != 1 {
		t.Fatal(why, at)
	}
	if len(s.Sheets)+len(s.Cells)+len(s.Views[0])+len(s.Frames[0].Frame.Stack)+len(s.Frames[0].Frame.Accs) != 0 {
		t.Error(s)
	}
}

func TestGreatest(t *testing.T) { // Promises 21.4, 21.6: images of very many parts, up to MaxImage bytes.
	const room = api.MaxImage - 16
	for what, b := range map[string][]byte{
		"Sheets": join(whole(), numberBytes(room), make([]byte, room+4)),
		"Cells":  join(whole(0, 0), numberBytes(room/8), make([]byte, room/8*8+2)),
		"Areas":  join(whole(0, 0, 0, 1), numberBytes(room/5), make([]byte, room/5*5+1)),
		"Frames": join(whole(0, 0, 0, 0), numberBytes(room/9), make([]byte, room/9)),
	} {
		s, why, at := Decode(b)
		if why != api.OK || at != 0 {
			t.Errorf("%s: %d, %d", what, why, at)
		}
		if again, why := Encode(s); !bytes.Equal(again, b) || why != api.OK {
			t.Errorf("%s: written otherwise: %d", what, why)
		}
	}
}
