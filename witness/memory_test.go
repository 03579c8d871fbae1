package witness

import (
	"fmt"
	"slices"
	"testing"

	"whittle/api"
)

func TestEventsHandedIn(t *testing.T) { // R3: events are not changed, spare room included, and not kept.
	for text, steps := range runs() {
		l := flat(t, text)
		room := api.Event{Cell: at("Z9"), Wrote: true, V: txt("room")}
		run, whole := roomy(events(steps), room, room)
		was := slices.Clone(whole)
		replayed(t, l, run[len(run)-1].V, run...)
		noReplay(t, "with its room", l, whole...)
		pieces := Split(run...)
		if !slices.Equal(whole, was) {
			t.Fatalf("%v, handed in as %v", whole, was)
		}
		fill(whole, room)
		if !slices.Equal(slices.Concat(pieces...), was[:len(run)]) {
			t.Fatal("what was handed in is kept", pieces)
		}
	}
}

func TestCodesHandedIn(t *testing.T) { // R3: a code is not changed, spare room included, places too.
	text := "CHOOSE(B3,A1,SUM(A1:A2),A3)"
	short, whole := roomy(flat(t, text), api.Ins{Op: 77}, api.Ins{Op: 78})
	for i := range short {
		if len(short[i].To) > 0 {
			short[i].To, _ = roomy(short[i].To, 88, 99)
		}
	}
	wide := func() string {
		s := fmt.Sprint(whole)
		for _, ins := range whole {
			s += fmt.Sprint(ins.To[:cap(ins.To)])
		}
		return s
	}
	was := wide()
	replayed(t, short, n(5), events("B3=2 . . A1=1 A2=4 . . =5")...)
	noReplay(t, "another one", short, events("B3=1 . . A1=1 A2=4 . . =5")...)
	noReplay(t, "no code", whole, events("B3=2 . . A1=1 A2=4 . . =5")...)
	if wide() != was {
		t.Error(wide(), was)
	}
}

func TestPiecesAreNewMemory(t *testing.T) { // R3: the pieces may be written over and grown, spare room too, with no change of one another, of the events or of what is told later.
	l := of("aaAbbcCCdD")
	was := slices.Clone(l)
	one, two := Split(l...), Split(l...)
	over := api.Event{Cell: at("Z99"), V: txt("over")}
	for i := range one {
		fill(one[i], over)
		one[i] = append(one[i], over, over, over)
		for k := i + 1; k < len(one); k++ {
			if !slices.Equal(one[k], two[k]) {
				t.Fatal(i, k, one[k])
			}
		}
	}
	fill(one, nil)
	if !slices.Equal(l, was) || !slices.Equal(slices.Concat(two...), was) {
		t.Error(l, two)
	}
	splitsTo(t, l, two...)
}

func TestChainsAreNewMemory(t *testing.T) { // R3: a chain may be written over and grown, spare room too.
	x := opened(t, "A1", "=1", "B1", "=A1", "C1", "=B1", "D1", "=C1", "E1", "=D1")
	was := tells(x)
	one, _ := Chain(x, at("E1"))
	two, _ := Chain(x, at("E1"))
	fill(one, at("Z99"))
	one = append(one[:0], make([]api.Cell, 9)...)
	if names(two...) != "E1 D1 C1 B1 A1" || len(one) != 9 || tells(x) != was {
		t.Error(one, two)
	}
	chainIs(t, x, "E1", "E1 D1 C1 B1 A1")
}

func TestToldStays(t *testing.T) { // R3: what was told is not turned by what comes later.
	x := opened(t, "A1", "1", "B1", "=A1", "C1", "=B1")
	chain, _ := Chain(x, at("C1"))
	pieces := Split(traced(t, x, 0, 4)...)
	told := fmt.Sprint(chain, pieces)
	edited(t, x, "A1", "x", "B1", "=T!A1")
	settle(t, x)
	if fmt.Sprint(chain, pieces) != told {
		t.Error(chain, pieces)
	}
}
