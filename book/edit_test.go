package book

import (
	"strings"
	"testing"

	"whittle/api"
)

// wrong is a change that is refused by itself, with its error and place.
type wrong struct {
	change api.Change
	why    api.Errno
	at     int
}

func (w wrong) refusal(change int) api.Refusal {
	return api.Refusal{Code: w.why, Change: change, At: w.at}
}

// wrongTexts are texts that no cell takes, of books with the sheets S and T.
func wrongTexts() []wrong {
	var l []wrong
	add := func(text string, why api.Errno, at int) {
		l = append(l, wrong{put("C3", text), why, at})
	}
	add(fits(api.MaxContent+1, "", "x"), api.ErrLong, 0)
	add(fits(api.MaxContent+1, "\n", "x"), api.ErrLong, 0)
	add(fits(api.MaxContent+1, "=1", " "), api.ErrLong, 0)
	add(fits(api.MaxContent+1, "=_", "x"), api.ErrLong, 0)
	add(fits(70000, "", "y"), api.ErrLong, 0)
	add("\n", api.ErrText, 0)
	add("ab\x1fc\x1f", api.ErrText, 2)
	add("=1+\x7f", api.ErrText, 3)
	add("=)\x80", api.ErrText, 2)
	add("=SUMM(\t1)", api.ErrText, 6)
	add(fits(api.MaxContent-1, "", "x")+"\n", api.ErrText, api.MaxContent-1)
	add("=_", api.ErrByte, 1)
	add("=1+~", api.ErrByte, 3)
	add(`="abc`, api.ErrQuote, 1)
	add("=", api.ErrForm, 1)
	add("= ", api.ErrForm, 2)
	add("==1", api.ErrForm, 1)
	add("=1+", api.ErrForm, 3)
	add("=SUMM(1)+", api.ErrForm, 9)
	add("=a1", api.ErrForm, 1)
	add("=U!A1)", api.ErrForm, 5)
	add("=SUM("+strings.Repeat("1,", 30)+"1)", api.ErrMany, 5+2*30-1)
	add("="+strings.Repeat("-", 300)+"1", api.ErrNodes, 1)
	add("="+strings.Repeat("-", 40)+"1", api.ErrDeep, 1)
	add("=1+SUMM(1)", api.ErrName, 0)
	add("=SUM()", api.ErrArity, 0)
	add("=A1:B2", api.ErrArea, 0)
	add("=1+A1:B2", api.ErrArea, 0)
	add("=SUMPRODUCT(A1:A2,A1:B1)", api.ErrShape, 0)
	add("=S!A1+U!A1", api.ErrSheet, 0)
	add("=s!A1", api.ErrSheet, 0)
	return l
}

// wrongCells are changes of cells that no book of two sheets has, to contents that might stand, and to such as might not.
func wrongCells() []wrong {
	var l []wrong
	for _, c := range append(strange(), api.Cell{Sheet: 2}) {
		for _, text := range []string{"1", "", "=A1"} {
			l = append(l, wrong{api.Change{Cell: c, Text: text}, api.ErrCell, 0})
		}
	}
	for _, w := range wrongTexts() {
		l = append(l, wrong{api.Change{Cell: api.Cell{Sheet: 2}, Text: w.change.Text}, api.ErrCell, 0})
	}
	return l
}

func TestRefusedByItself(t *testing.T) { // Promise 11.2: each error of one change, with its place.
	b := opened(t, puts("A1", "2", "C3", "=A1", "T!B2", "x")...)
	for _, w := range append(wrongTexts(), wrongCells()...) {
		refused(t, b, w.refusal(0), w.change)
	}
}

func TestRefusedAtEachChange(t *testing.T) { // Promise 11.2: Change tells the number of the first wrong one.
	b := opened(t, puts("A1", "2", "C3", "=A1", "T!B2", "x")...)
	for _, w := range append(wrongTexts(), wrongCells()...) {
		for _, n := range []int{1, 2, 9, 254} {
			rest := column(1, 10, n, "=A1")
			for _, i := range []int{0, n / 2, n} {
				l := append(append(append([]api.Change{}, rest[:i]...), w.change), rest[i:]...)
				refused(t, b, w.refusal(i), l...)
			}
		}
	}
}

func TestRefusedByTheFirst(t *testing.T) { // Promise 11.2, R2: of two wrong changes the first one counts, whatever errors they are.
	b := opened(t)
	l := append(wrongTexts(), wrongCells()...)
	for _, one := range l {
		for _, two := range l {
			refused(t, b, one.refusal(1), put("A1", "1"), one.change, put("B1", "1"), two.change)
		}
	}
}

func TestRefusedTwice(t *testing.T) { // Promise 11.2: ErrTwice of a cell that a change ahead names, ahead of all that its text might be refused for.
	b := opened(t, puts("A1", "2")...)
	twice := func(change int) api.Refusal { return api.Refusal{Code: api.ErrTwice, Change: change} }
	refused(t, b, twice(1), puts("C3", "", "C3", "")...)
	refused(t, b, twice(1), puts("C3", "1", "C3", "")...)
	refused(t, b, twice(2), puts("A1", "", "C3", "1", "A1", "")...)
	refused(t, b, twice(2), puts("C3", "1", "B1", "1", "C3", "1", "B1", "1", "A1", "\n")...)
	refused(t, b, twice(255), append(column(0, 0, 255, "7"), put("A255", "7"))...)
	refused(t, b, twice(1), make([]api.Change, api.MaxBatch)...)
	for _, w := range wrongTexts() {
		refused(t, b, twice(1), put("C3", "1"), w.change)
		refused(t, b, twice(2), put("C3", "1"), put("B2", "1"), w.change, w.change)
		// The wrong one stands ahead: it counts by itself.
		refused(t, b, w.refusal(0), w.change, put("C3", "1"))
		refused(t, b, w.refusal(2), put("A1", "1"), put("T!C3", "1"), w.change, put("A1", "1"))
	}
	for _, w := range wrongCells() {
		// No cell of the book comes first, also where it stands twice.
		refused(t, b, w.refusal(0), w.change, w.change)
		refused(t, b, twice(1), put("C3", "1"), put("C3", "1"), w.change)
		refused(t, b, w.refusal(1), put("C3", "1"), w.change, put("C3", "1"))
	}
	taken(t, b, puts("C3", "1", "T!C3", "2", "D3", "3", "C4", "4")...)
}

func TestRefusedCounts(t *testing.T) { // Promise 11.2: ErrNone and ErrMany ahead of all else, with Change and At 0.
	b := opened(t, puts("A1", "2")...)
	refused(t, b, api.Refusal{Code: api.ErrNone})
	refused(t, b, api.Refusal{Code: api.ErrNone}, []api.Change{}...)
	many := api.Refusal{Code: api.ErrMany}
	refused(t, b, many, column(0, 0, api.MaxBatch+1, "1")...)
	refused(t, b, many, column(0, 0, 5000, "1")...)
	refused(t, b, many, make([]api.Change, api.MaxBatch+1)...)
	for _, w := range append(wrongTexts(), wrongCells()...) {
		refused(t, b, many, append(column(0, 0, api.MaxBatch, "1"), w.change)...)
		refused(t, b, many, append([]api.Change{w.change, w.change}, column(0, 0, api.MaxBatch-1, "1")...)...)
	}
	taken(t, b, column(0, 0, api.MaxBatch, "1")...)
	if b.Len() != api.MaxBatch || b.Version() != 2 {
		t.Error(b.Len(), b.Version())
	}
}

func TestLongTexts(t *testing.T) { // Promise 11.2: MaxContent bytes are taken, in constants and formulas.
	b := opened(t)
	for _, text := range []string{fits(api.MaxContent, "", "x"), fits(api.MaxContent, "'", "7"), fits(api.MaxContent, "=1", " "), fits(api.MaxContent, "=SUM(A1:B2)", " ")} {
		taken(t, b, put("B2", text))
		if b.Text(at("B2")) != text {
			t.Errorf("%q", b.Text(at("B2")))
		}
		refused(t, b, api.Refusal{Code: api.ErrLong}, put("B2", text+" "))
	}
}

func TestBytes(t *testing.T) { // Promise 11.2, R9: the bytes from 32 to 126 alone, in constants and formulas.
	b := opened(t)
	for n := range 256 {
		one := string([]byte{byte(n)})
		texts := []struct {
			text string
			at   int
		}{{"ab" + one, 2}, {"x" + one + "y" + one, 1}, {"'" + one, 1}, {`="` + one + one + `"`, 2}, {`="abc"&"` + one + one + `z"`, 8}}
		for _, x := range texts {
			if n < 32 || n > 126 {
				refused(t, b, api.Refusal{Code: api.ErrText, At: x.at}, put("A1", x.text))
				continue
			}
			taken(t, b, put("A1", x.text))
			if b.Text(at("A1")) != x.text {
				t.Errorf("%q for %q", b.Text(at("A1")), x.text)
			}
		}
	}
	// Not the text's fault, but the formula's.
	for text, why := range map[string]api.Errno{"=\x1f": api.ErrText, "=~": api.ErrByte, "=\x7f": api.ErrText, "=\x80": api.ErrText} {
		refused(t, b, api.Refusal{Code: why, At: 1}, put("A1", text))
	}
	refused(t, b, api.Refusal{Code: api.ErrForm, At: 2}, put("A1", "= "))
}

func TestLaid(t *testing.T) { // Promise 11.2: laid, laid anew, emptied, emptied again, with the version behind each.
	b := opened(t)
	for i, x := range []struct {
		changes []api.Change
		texts   map[string]string
	}{
		{puts("A1", "1"), map[string]string{"A1": "1"}},
		{puts("A1", "1"), map[string]string{"A1": "1"}},
		{puts("A1", "=B1", "B1", "x"), map[string]string{"A1": "=B1", "B1": "x"}},
		{puts("B1", "=A1", "A1", "y"), map[string]string{"A1": "y", "B1": "=A1"}},
		{puts("B1", ""), map[string]string{"A1": "y"}},
		{puts("B1", ""), map[string]string{"A1": "y"}},
		{puts("T!IV65536", "", "T!A1", "", "C1", ""), map[string]string{"A1": "y"}},
		{puts("A1", "", "B1", "z", "T!A1", " "), map[string]string{"B1": "z", "T!A1": " "}},
		{puts("T!A1", "", "B1", "", "A1", ""), nil},
		{puts("A1", "", "B1", ""), nil},
		{puts("A1", "5"), map[string]string{"A1": "5"}},
	} {
		taken(t, b, x.changes...)
		if b.Version() != i+1 || b.Len() != len(x.texts) || len(b.Cells(0))+len(b.Cells(1)) != len(x.texts) {
			t.Errorf("edit %d: version %d, %d cells", i, b.Version(), b.Len())
		}
		for _, name := range []string{"A1", "B1", "C1", "T!A1", "T!IV65536"} {
			if b.Text(at(name)) != x.texts[name] {
				t.Errorf("edit %d: %s %q", i, name, b.Text(at(name)))
			}
		}
	}
}

func TestVersionBehindRefusals(t *testing.T) { // Promise 11.5: the version counts the accepted ones.
	b := opened(t)
	for i := range 20 {
		refused(t, b, api.Refusal{Code: api.ErrNone})
		refused(t, b, api.Refusal{Code: api.ErrForm, Change: 1, At: 1}, puts("A1", "9", "B1", "=")...)
		taken(t, b, put("A1", strings.Repeat("x", i)))
		if b.Version() != i+1 {
			t.Error(b.Version(), "behind", i+1)
		}
	}
}
