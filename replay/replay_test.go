package replay_test

import (
	"math"
	"math/rand/v2"
	"testing"

	"slotmesh/api"
	"slotmesh/replay"
)

func window(top int, bits uint64) api.Window { return api.Window{Top: top, Bits: bits} }

func note(t *testing.T, w api.Window, n int) api.Window {
	t.Helper()
	x, e := replay.Note(w, n)
	if e != api.OK {
		t.Fatalf("%v and %d: %v", w, n, e)
	}
	return x
}

// of returns the window of some counters, by its definition.
func of(noted map[int]bool) api.Window {
	var w api.Window
	for n := range noted {
		w.Top = max(w.Top, n)
	}
	for n := range noted {
		if i := w.Top - n; i < 64 {
			w.Bits |= 1 << i
		}
	}
	return w
}

// P29.1: AC1.
func TestValid(t *testing.T) {
	for _, x := range []struct {
		w  api.Window
		ok bool
	}{
		{window(0, 0), true}, {window(0, 1), false}, {window(0, 2), false}, {window(1, 1), true}, {window(1, 0), false}, {window(1, 3), false}, {window(2, 3), true}, {window(2, 2), false}, {window(2, 5), false}, {window(2, 7), false},
		{window(63, 1<<63-1), true}, {window(63, 1<<63|1), false}, {window(64, math.MaxUint64), true}, {window(64, math.MaxUint64-1), false}, {window(65, math.MaxUint64), true}, {window(1000000000, 1), true}, {window(1000000001, 1), false},
		{window(-1, 1), false}, {window(-1, 0), false}, {window(math.MinInt, 1), false}, {window(math.MaxInt, 1), false}, {window(62, 1<<62|1), false}, {window(62, 1<<61|1), true},
	} {
		if replay.Valid(x.w) != x.ok {
			t.Errorf("%v: not %v", x.w, x.ok)
		}
		if x.ok {
			continue
		}
		if y, e := replay.Note(x.w, 5); e != api.ErrArg || y != (api.Window{}) || replay.Fresh(x.w, 5) || replay.Fresh(x.w, 1000000000) {
			t.Errorf("%v: %v %v", x.w, y, e)
		}
	}
}

// The examples of the chapter.
func TestExamples(t *testing.T) {
	w := window(0, 0)
	for _, x := range []struct{ n, top, bits int }{{5, 5, 1}, {7, 7, 5}, {6, 7, 7}} {
		if w = note(t, w, x.n); w != window(x.top, uint64(x.bits)) {
			t.Errorf("after %d: %v", x.n, w)
		}
	}
	if x, e := replay.Note(w, 5); e != api.ErrOld || x != (api.Window{}) {
		t.Errorf("%v %v", x, e)
	}
	if w = note(t, w, 71); w != window(71, 1) {
		t.Errorf("%v", w)
	}
	if !replay.Fresh(w, 8) || replay.Fresh(w, 7) {
		t.Error("8 and 7")
	}
}

// P29.1: AC2 and AC3; P29.2 (once), P29.3 (exactly) and P29.4 (valid).
func TestNote(t *testing.T) {
	r := rand.New(rand.NewPCG(29, 1))
	for range 300 {
		noted := map[int]bool{}
		var w api.Window
		base := []int{0, 0, 999999800}[r.IntN(3)]
		for range 80 {
			n := base + 1 + r.IntN(200)
			if r.IntN(2) == 0 {
				n = max(base+1, min(base+200, w.Top+r.IntN(7)-3))
			}
			fresh := n > w.Top-64 && !noted[n]
			if replay.Fresh(w, n) != fresh {
				t.Fatalf("%v and %d: not %v", w, n, fresh)
			}
			x, e := replay.Note(w, n)
			if !fresh {
				if e != api.ErrOld || x != (api.Window{}) {
					t.Fatalf("%v and %d: %v %v", w, n, x, e)
				}
				continue
			}
			noted[n] = true
			if e != api.OK || x != of(noted) || !replay.Valid(x) {
				t.Fatalf("%v and %d: %v %v, want %v", w, n, x, e, of(noted))
			}
			w = x
			for k := max(1, w.Top-70); k <= w.Top+70 && k <= 1000000000; k++ {
				if replay.Fresh(w, k) != (k > w.Top-64 && !noted[k]) {
					t.Fatalf("%v and %d", w, k)
				}
			}
		}
	}
	for _, n := range []int{0, -1, 1000000001, math.MaxInt, math.MinInt} {
		for _, w := range []api.Window{{}, window(64, math.MaxUint64), window(1000000000, 1)} {
			if x, e := replay.Note(w, n); e != api.ErrArg || x != (api.Window{}) || replay.Fresh(w, n) {
				t.Errorf("%v and %d: %v %v", w, n, x, e)
			}
		}
	}
}

// P29.5 (order) and P29.6 (moving).
func TestOrder(t *testing.T) {
	r := rand.New(rand.NewPCG(29, 2))
	for range 1000 {
		base := 64 + r.IntN(1000)
		list := r.Perm(64)[:1+r.IntN(64)]
		by := r.IntN(1000000)
		var a, b, c api.Window
		for _, n := range list {
			a = note(t, a, base+n)
			c = note(t, c, base+n+by)
		}
		r.Shuffle(len(list), func(i, k int) { list[i], list[k] = list[k], list[i] })
		for _, n := range list {
			b = note(t, b, base+n)
		}
		if a != b || c != window(a.Top+by, a.Bits) {
			t.Fatalf("%v: %v, %v and %v", list, a, b, c)
		}
	}
}

// P29.7 (jumps).
func TestJumps(t *testing.T) {
	r := rand.New(rand.NewPCG(29, 3))
	for range 500 {
		var w api.Window
		for range 20 {
			if n := w.Top + 1 + r.IntN(3); replay.Fresh(w, n) {
				w = note(t, w, n)
			}
		}
		for _, by := range []int{64, 65, 100, 128, 1000000000 - w.Top} {
			if x := note(t, w, w.Top+by); x != window(w.Top+by, 1) {
				t.Fatalf("%v and %d more: %v", w, by, x)
			}
		}
		if x := note(t, w, w.Top+63); x.Bits != 1|1<<63 {
			t.Fatalf("%v and 63 more: %v", w, x)
		}
	}
}
