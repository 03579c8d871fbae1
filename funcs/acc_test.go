package funcs

import (
	"fmt"
	"math"
	"math/rand"
	"testing"

	"whittle/api"
	"whittle/value"
)

// open is a fold that begins.
func open(t *testing.T, id int) *Acc {
	t.Helper()
	a, code := Open(id)
	if a == nil || code != api.OK {
		t.Fatalf("Open(%d): %d", id, code)
	}
	return a
}

// back is a fold that stands at s.
func back(t *testing.T, s api.Acc) *Acc {
	t.Helper()
	a, code := Back(s)
	if a == nil || code != api.OK {
		t.Fatalf("Back(%s): %d", state(s), code)
	}
	return a
}

// state is where a fold stands, in short.
func state(s api.Acc) string {
	return fmt.Sprintf("{Fn %d, Count %d, Num %d/%d, V %s, Needle %s, Has %v, Full %v, Wants %v, Held %d/%d}", s.Fn, s.Count, s.Num.N, s.Num.D, told(s.V), told(s.Needle), s.Has, s.Full, s.Wants, s.Held.N, s.Held.D)
}

func played(l []step) string {
	s := ""
	for _, x := range l {
		s += fmt.Sprintf("%c %s; ", x.how, told(x.v))
	}
	return s
}

// agrees: does a tell what m does?
func agrees(t *testing.T, a *Acc, m *model, l []step) {
	t.Helper()
	if a.State() != m.Acc {
		t.Fatalf("%sstands at %s, want %s", played(l), state(a.State()), state(m.Acc))
	}
	if a.Full() != m.Full || a.Wants() != m.Wants {
		t.Fatalf("%sFull %v, Wants %v at %s", played(l), a.Full(), a.Wants(), state(m.Acc))
	}
	if got, want := a.Result(), m.result(); got != want || !value.Right(got) {
		t.Fatalf("%scomes to %s, want %s, at %s", played(l), told(got), told(want), state(m.Acc))
	}
	if a.State() != m.Acc {
		t.Fatalf("%sResult changed it to %s", played(l), state(a.State()))
	}
}

// play plays the steps on a fold and on the model.
func play(t *testing.T, s api.Acc, l []step) {
	t.Helper()
	a, m := back(t, s), &model{s}
	agrees(t, a, m, nil)
	for i, x := range l {
		x.do(a)
		m.do(x)
		agrees(t, a, m, l[:i+1])
	}
}

// steps are all steps with these values.
func steps(vs ...api.Value) []step {
	var l []step
	for _, v := range vs {
		l = append(l, step{'F', v}, step{'C', v}, step{'P', v})
	}
	return l
}

// few are values of every Kind.
func few() []api.Value {
	return []api.Value{blank, n(0), n(1), n(-6), q(3, 2), n(top), txt(""), txt("2"), txt("x"), txt("TRUE"), txt(">0"), is(true), is(false), none, q(2, 4)}
}

func TestOpen(t *testing.T) { // Promise 7.3.
	known := map[int]int{}
	for _, id := range accs() {
		known[id] = 1
		a := open(t, id)
		if a.State() != begun(id) || a.Full() || a.Wants() {
			t.Fatalf("Open(%d) stands at %s", id, state(a.State()))
		}
	}
	list := []int{math.MinInt, 1<<32 + api.FnSum, math.MaxInt}
	for id := -100; id < 200; id++ {
		list = append(list, id)
	}
	for _, id := range list {
		if known[id] == 1 {
			continue
		}
		if a, code := Open(id); a != nil || code != api.ErrArg {
			t.Fatalf("Open(%d): %d", id, code)
		}
		if a, code := Back(api.Acc{Fn: id, Num: zeroNum}); a != nil || code != api.ErrState {
			t.Fatalf("Back of function %d: %d", id, code)
		}
	}
}

func TestResultOfNothing(t *testing.T) { // Promise 7.7.
	for id, want := range map[int]api.Value{
		api.FnSum: n(0), api.FnProduct: n(1), api.FnCount: n(0), api.FnCountA: n(0), api.FnMin: n(0), api.FnMax: n(0), api.FnAverage: divide, api.FnAnd: is(true), api.FnOr: is(false), api.FnXor: is(false), api.FnConcat: txt(""), api.FnSumSq: n(0), api.FnGcd: n(0), api.FnFirst: blank, api.FnLast: blank, api.FnMatch: none, api.FnCountIf: n(0), api.FnSumIf: n(0), api.FnLookup: none, api.FnSumProduct: n(0),
	} {
		if got := open(t, id).Result(); got != want {
			t.Fatalf("function %d of nothing is %s", id, told(got))
		}
	}
}

func TestOneStep(t *testing.T) { // Promises 7.4 to 7.7: each function, each way, each value.
	vs := append(some(), unright()...)
	for _, s := range []string{"<=", ">=", "<>", "<", ">", "=", "<=2", "==2", "=<2", "<<2", "'2", "=TRUE", "<#N/A"} {
		vs = append(vs, txt(s))
	}
	for _, id := range accs() {
		for _, x := range steps(vs...) {
			play(t, begun(id), []step{x})
		}
	}
}

func TestThreeSteps(t *testing.T) { // Promises 7.4 to 7.7: all that can come in three steps.
	all := steps(few()...)
	for _, id := range accs() {
		for _, x := range all {
			for _, y := range all {
				play(t, begun(id), []step{x, y})
			}
		}
	}
	all = steps(blank, n(2), n(-3), txt("2"), is(true), is(false), none)
	for _, id := range accs() {
		for _, x := range all {
			for _, y := range all {
				for _, z := range all {
					play(t, begun(id), []step{x, y, z})
				}
			}
		}
	}
}

func TestManySteps(t *testing.T) { // Promises 7.4 to 7.9: long rows, written down and gone on with here and there.
	r := rand.New(rand.NewSource(7))
	vs := append(few(), n(2), n(3), n(4), n(-8), q(1, 2), q(1, 3), q(1, 999983), n(bottom), n(-top), txt("<2"), txt("<>2"), txt("=x"), txt(xs(100)), is(true), blank, blank, n(2), n(2))
	for _, id := range accs() {
		for range 400 {
			a, m := open(t, id), &model{begun(id)}
			var l []step
			for range 12 {
				x := step{"FCCCP"[r.Intn(5)], vs[r.Intn(len(vs))]}
				if m.Fn == api.FnLast || x.v.Kind != api.Fault && value.Right(x.v) || r.Intn(8) == 0 {
					x.do(a)
					m.do(x)
					l = append(l, x)
					agrees(t, a, m, l)
				}
				if r.Intn(2) == 0 {
					a = back(t, a.State())
				}
			}
		}
	}
}

// stands are states that are reached and that are not, right and wrong ones, at the edges of each field.
func stands(id int) []api.Acc {
	var l []api.Acc
	for _, count := range []int{0, top, -1, top + 1} {
		for _, x := range []api.Num{zeroNum, {N: 12, D: 1}, {N: -top, D: 1}, {N: 1, D: bottom}, {}, {N: 2, D: 4}} {
			for _, v := range []api.Value{blank, txt("ab"), none, q(2, 4)} {
				for _, needle := range []api.Value{blank, n(2), txt("<=2"), {Kind: 7}} {
					for _, held := range []api.Num{{}, zeroNum, {N: 3, D: 2}, {N: 6, D: 4}} {
						for flags := range 8 {
							l = append(l, api.Acc{Fn: id, Count: count, Num: x, V: v, Needle: needle, Has: flags&1 > 0, Full: flags&2 > 0, Wants: flags&4 > 0, Held: held})
						}
					}
				}
			}
		}
	}
	for _, k := range []int{math.MinInt, math.MinInt + 1, -top - 1, -top, -2, 1, top - 1, top, top + 2, math.MaxInt} {
		for _, wants := range []bool{false, true} {
			l = append(l, api.Acc{Fn: id, Num: zeroNum, Count: k, Wants: wants})
			for _, d := range []int{math.MinInt, -1, 0, 1, 3, bottom, bottom + 1, math.MaxInt} {
				l = append(l, api.Acc{Fn: id, Num: api.Num{N: k, D: d}, Wants: wants}, api.Acc{Fn: id, Num: zeroNum, Held: api.Num{N: k, D: d}, Wants: wants})
			}
		}
	}
	for _, v := range append(unright(), some()...) {
		l = append(l, api.Acc{Fn: id, Num: zeroNum, V: v}, api.Acc{Fn: id, Num: zeroNum, Needle: v, Has: true}, api.Acc{Fn: id, Num: zeroNum, V: v, Full: true})
	}
	return l
}

func TestBack(t *testing.T) { // Promise 7.8: what it refuses, and what it takes.
	for _, id := range append(accs(), 0, api.FnIndex, api.FnIf, api.FnAbs, api.FnNA, -1, 16, 28, math.MaxInt) {
		taken := 0
		for _, s := range stands(id) {
			a, code := Back(s)
			if !sound(s) {
				if a != nil || code != api.ErrState {
					t.Fatalf("Back(%s): %d", state(s), code)
				}
				continue
			}
			taken++
			if code != api.OK || a == nil || a.State() != s {
				t.Fatalf("Back(%s): %d", state(s), code)
			}
			agrees(t, a, &model{s}, nil)
		}
		if id > 0 && id < api.FnIndex && id != 16 && taken == 0 {
			t.Fatalf("no state of function %d is taken", id)
		}
	}
}

func TestBackGoesOn(t *testing.T) { // Promises 7.4 to 7.8: from each state that Back takes, reached or not.
	all := steps(blank, n(2), n(-8), n(top), q(1, 999983), txt("2"), txt("TRUE"), is(true), is(false), none)
	for _, id := range accs() {
		for _, s := range stands(id) {
			if !sound(s) {
				continue
			}
			for _, x := range all {
				a, m := back(t, s), &model{s}
				x.do(a)
				m.do(x)
				if a.State() != m.Acc || a.Result() != m.result() {
					t.Fatalf("%sat %s stands at %s, want %s", played([]step{x}), state(s), state(a.State()), state(m.Acc))
				}
			}
		}
	}
}

func TestNothingInCommon(t *testing.T) { // Rule R4: two folds go on by themselves; what was told does not change.
	for _, id := range accs() {
		a, b := open(t, id), open(t, id)
		ahead := a.State()
		for _, x := range steps(n(2), n(2), is(true), txt("x")) {
			x.do(a)
		}
		c := back(t, a.State())
		there := a.State()
		if b.State() != begun(id) || ahead != begun(id) {
			t.Fatalf("function %d: another one stands at %s", id, state(b.State()))
		}
		for _, x := range steps(n(2), n(3), none) {
			x.do(c)
		}
		if a.State() != there {
			t.Fatalf("function %d: the first stands at %s", id, state(a.State()))
		}
	}
}
