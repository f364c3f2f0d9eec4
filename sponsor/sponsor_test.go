package sponsor_test

import (
	"fmt"
	"math"
	"math/rand/v2"
	"slices"
	"testing"

	"slotmesh/api"
	"slotmesh/join"
	"slotmesh/random"
	"slotmesh/sponsor"
)

func same(a, b any) bool { return fmt.Sprint(a) == fmt.Sprint(b) }

func question(stranger, me, nonce int) api.Word {
	return api.Word{Kind: api.WordAsk, Stranger: stranger, Sponsor: me, Nonce: nonce}
}

func challenge(me, stranger, nonce, frame int) int {
	s := uint64(64*me + stranger)
	s = s*1000003 + uint64(nonce)
	return random.Below(s*1000003+uint64(frame), 1000000000)
}

func hear(t *testing.T, l []api.Half, me int, w api.Word, frame int) []api.Half {
	t.Helper()
	x, e := sponsor.Hear(l, me, w, frame)
	if e != api.OK {
		t.Fatalf("%v hears %v: %v", l, w, e)
	}
	return x
}

// P31.1: AE1.
func TestValid(t *testing.T) {
	good := api.Half{Stranger: 7, Nonce: 300, Challenge: 5, Until: 22}
	check := func(ok bool, l ...api.Half) {
		t.Helper()
		if sponsor.Valid(l) != ok {
			t.Errorf("%v: not %v", l, ok)
		}
		x, e := sponsor.Hear(l, 3, question(50, 3, 1), 5)
		if !ok && (e != api.ErrArg || len(x) > 0 || len(sponsor.Words(l, 3)) > 0 || len(sponsor.Proofs(l, 3)) > 0) {
			t.Errorf("%v: %v %v", l, x, e)
		}
	}
	check(true)
	check(true, good)
	wild := []int{-1, math.MaxInt, math.MinInt}
	for _, n := range append(wild, 0, 59, 60) {
		h := good
		h.Stranger = n
		check(n >= 0 && n <= 59, h)
	}
	for _, n := range append(wild, 0, 1000000000, 1000000001) {
		a, b, c := good, good, good
		a.Nonce, b.Challenge, c.Until = n, n, n
		for _, h := range []api.Half{a, b, c} {
			check(n >= 0 && n <= 1000000000, h)
		}
	}
	for _, n := range append(wild, 0, 1, 2000000, 2000001) {
		h := good
		h.Key = n
		check(n == 0, h)
		h.Proved = true
		check(n >= 0 && n <= 2000000, h)
	}
	check(false, good, good)
	check(false, api.Half{Stranger: 8}, good)
	check(true, api.Half{Stranger: 0}, good, api.Half{Stranger: 8}, api.Half{Stranger: 59})
	check(false, api.Half{Stranger: 0}, good, api.Half{Stranger: 8}, api.Half{Stranger: 9}, api.Half{Stranger: 59})
}

// The examples of the chapter.
func TestExamples(t *testing.T) {
	l := hear(t, nil, 3, question(7, 3, 300), 10)
	want := []api.Half{{Stranger: 7, Nonce: 300, Challenge: challenge(3, 7, 300, 10), Until: 22}}
	if !same(l, want) {
		t.Fatalf("%v, want %v", l, want)
	}
	if x := hear(t, l, 3, question(7, 3, 300), 15); !same(x, l) {
		t.Errorf("%v", x)
	}
	if x, e := sponsor.Hear(l, 3, question(7, 3, 299), 15); e != api.ErrOld || len(x) > 0 {
		t.Errorf("%v %v", x, e)
	}
	four := []api.Half{{Stranger: 1}, {Stranger: 2}, {Stranger: 8}, {Stranger: 9}}
	if x, e := sponsor.Hear(four, 3, question(7, 3, 300), 10); e != api.ErrFull || len(x) > 0 {
		t.Errorf("%v %v", x, e)
	}
	if x := hear(t, four, 3, question(8, 3, 300), 10); len(x) != 4 || x[2].Nonce != 300 {
		t.Errorf("%v", x)
	}
	wrong := api.Word{Kind: api.WordProof, Stranger: 7, Sponsor: 3, Nonce: 300, Challenge: want[0].Challenge + 1}
	if x, e := sponsor.Hear(l, 3, wrong, 10); e != api.ErrNone || len(x) > 0 {
		t.Errorf("%v %v", x, e)
	}
}

// model is AE2 for valid arguments by its definition.
func model(l []api.Half, me int, w api.Word, frame int) ([]api.Half, api.Errno) {
	at := slices.IndexFunc(l, func(h api.Half) bool { return h.Stranger == w.Stranger })
	out := slices.Clone(l)
	switch w.Kind {
	case api.WordAsk:
		h := api.Half{Stranger: w.Stranger, Nonce: w.Nonce, Challenge: challenge(me, w.Stranger, w.Nonce, frame), Until: frame + 12}
		switch {
		case at >= 0 && l[at].Nonce > w.Nonce:
			return nil, api.ErrOld
		case at >= 0 && l[at].Nonce == w.Nonce:
		case at >= 0:
			out[at] = h
		case len(l) == 4:
			return nil, api.ErrFull
		default:
			out = append(out, h)
			slices.SortFunc(out, func(a, b api.Half) int { return a.Stranger - b.Stranger })
		}
	case api.WordProof:
		if at < 0 || l[at].Nonce != w.Nonce || l[at].Challenge != w.Challenge {
			return nil, api.ErrNone
		}
		out[at].Proved, out[at].Key = true, w.Key
	default:
		return nil, api.ErrKind
	}
	return out, api.OK
}

// P31.1: AE2; P31.2 (bounded), P31.3 (only after a challenge), P31.4 (others) and P31.5 (replays).
func TestHear(t *testing.T) {
	r := rand.New(rand.NewPCG(31, 1))
	count := map[api.Errno]int{}
	for range 300 {
		var l []api.Half
		me, frame := 3, r.IntN(100)
		for range 60 {
			frame += r.IntN(3)
			l = sponsor.Expire(l, frame)
			w := api.Word{Kind: []int{1, 1, 3, 3, 3, 2, 4}[r.IntN(7)], Stranger: 4 + r.IntN(7), Sponsor: me, Nonce: r.IntN(4), Challenge: r.IntN(3), Key: []int{0, 2000000, 1000007}[r.IntN(3)], Ring: api.Ring{First: -5}}
			if len(l) > 0 && r.IntN(2) == 0 {
				h := l[r.IntN(len(l))]
				w.Stranger, w.Nonce, w.Challenge = h.Stranger, h.Nonce, h.Challenge
			}
			before := fmt.Sprint(l)
			x, e := sponsor.Hear(l, me, w, frame)
			count[e]++
			if want, we := model(l, me, w, frame); e != we || !same(x, want) {
				t.Fatalf("%v hears %v in %d: %v %v, want %v %v", l, w, frame, x, e, want, we)
			}
			if e != api.OK {
				continue
			}
			if !sponsor.Valid(x) || len(x) > 4 {
				t.Fatalf("%v hears %v: %v", l, w, x)
			}
			for _, h := range x {
				if h.Until > frame+12 || h.Until < frame {
					t.Fatalf("%v lasts too long in %d", h, frame)
				}
				if h.Stranger != w.Stranger && !slices.Contains(l, h) {
					t.Fatalf("%v hears %v: %v has changed", l, w, h)
				}
			}
			if y, e := sponsor.Hear(x, me, w, frame); e != api.OK || !same(y, x) {
				t.Fatalf("%v hears %v again: %v %v", x, w, y, e)
			}
			y := hear(t, l, me, w, frame)
			for i := range y {
				y[i].Until = -1
			}
			if fmt.Sprint(l) != before {
				t.Fatal("memory is shared")
			}
			l = x
		}
	}
	for _, e := range []api.Errno{api.OK, api.ErrOld, api.ErrFull, api.ErrNone, api.ErrKind} {
		if count[e] < 20 {
			t.Errorf("%v only %d times", e, count[e])
		}
	}
}

// P31.1: AE2: what is not valid.
func TestErrors(t *testing.T) {
	good := question(7, 3, 300)
	refused := func(me int, w api.Word, frame int, want api.Errno) {
		t.Helper()
		if x, e := sponsor.Hear(nil, me, w, frame); e != want || len(x) > 0 {
			t.Errorf("node %d hears %v in %d: %v %v", me, w, frame, x, e)
		}
	}
	wild := []int{-1, math.MaxInt, math.MinInt}
	for _, n := range append(wild, 999999989, 1000000000) {
		refused(3, good, n, api.ErrArg)
	}
	for _, n := range append(wild, 2000001) {
		for _, kind := range []int{1, 2, 3} {
			w := good
			w.Kind, w.Key = kind, n
			refused(3, w, 5, api.ErrArg)
		}
	}
	for _, n := range append(wild, 0, 5) {
		w := good
		w.Kind = n
		refused(3, w, 5, api.ErrArg)
	}
	for _, n := range append(wild, 60, 3) {
		w := good
		w.Stranger = n
		refused(3, w, 5, api.ErrArg)
	}
	for _, n := range append(wild, 60, 4) {
		refused(n, good, 5, api.ErrArg)
		w := good
		w.Sponsor = n
		refused(3, w, 5, api.ErrArg)
	}
	for _, n := range append(wild, 60) {
		w := good
		w.Sponsor = n
		refused(n, w, 5, api.ErrArg)
	}
	for _, n := range append(wild, 1000000001) {
		a, b := good, good
		a.Nonce, b.Challenge = n, n
		refused(3, a, 5, api.ErrArg)
		refused(3, b, 5, api.ErrArg)
	}
	for _, kind := range []int{api.WordChallenge, api.WordWelcome} {
		w := good
		w.Kind = kind
		refused(3, w, 5, api.ErrKind)
	}
	w := api.Word{Kind: api.WordAsk, Stranger: 0, Sponsor: 59, Nonce: 1000000000, Challenge: 1000000000, Key: 2000000}
	if x := hear(t, nil, 59, w, 999999988); !same(x, []api.Half{{Nonce: 1000000000, Challenge: challenge(59, 0, 1000000000, 999999988), Until: 1000000000}}) {
		t.Errorf("the borders: %v", x)
	}
}

// P31.1: AE3.
func TestExpire(t *testing.T) {
	l := []api.Half{{Stranger: 9, Until: 5}, {Stranger: 9, Until: math.MinInt}, {Stranger: -4, Until: 7, Key: -1}}
	for _, x := range []struct {
		frame int
		want  []api.Half
	}{{5, []api.Half{l[0], l[2]}}, {6, []api.Half{l[2]}}, {8, nil}, {math.MinInt, l}, {math.MaxInt, nil}, {0, []api.Half{l[0], l[2]}}} {
		y := sponsor.Expire(l, x.frame)
		if !same(y, x.want) {
			t.Errorf("in %d: %v", x.frame, y)
		}
		if len(y) > 0 {
			y[0].Nonce = 77
		}
	}
	if l[0].Nonce != 0 || l[2].Nonce != 0 {
		t.Error("memory is shared")
	}
}

// P31.1: AE4 and AE5; P31.7 (told).
func TestWords(t *testing.T) {
	l := []api.Half{{Stranger: 1, Nonce: 5, Challenge: 6, Until: 9}, {Stranger: 2, Nonce: 7, Challenge: 8, Until: 9, Proved: true, Key: 1000002}, {Stranger: 4}, {Stranger: 5, Proved: true}}
	words := []api.Word{{Kind: api.WordChallenge, Stranger: 1, Sponsor: 3, Nonce: 5, Challenge: 6}, {Kind: api.WordChallenge, Stranger: 4, Sponsor: 3}}
	proofs := []api.Word{{Kind: api.WordProof, Stranger: 2, Sponsor: 3, Nonce: 7, Challenge: 8, Key: 1000002}, {Kind: api.WordProof, Stranger: 5, Sponsor: 3}}
	if w, p := sponsor.Words(l, 3), sponsor.Proofs(l, 3); !same(w, words) || !same(p, proofs) {
		t.Errorf("%v %v", w, p)
	}
	for _, me := range []int{0, 59} {
		if len(sponsor.Words(l, me)) != 2 || len(sponsor.Proofs(l, me)) != 2 {
			t.Errorf("node %d", me)
		}
	}
	for _, me := range []int{-1, 60, math.MaxInt, math.MinInt} {
		if len(sponsor.Words(l, me)) > 0 || len(sponsor.Proofs(l, me)) > 0 {
			t.Errorf("node %d", me)
		}
	}
}

// P31.6 (the dialogue).
func TestDialogue(t *testing.T) {
	r := rand.New(rand.NewPCG(31, 2))
	for range 200 {
		me, stranger, boot, frame := r.IntN(30), 30+r.IntN(30), r.IntN(1000), r.IntN(1000)
		var l []api.Half
		for range r.IntN(4) {
			l = hear(t, l, me, question((me+1+r.IntN(20))%30, me, 5), frame)
		}
		j, w, _ := join.Ask(api.Join{Sponsor: -1}, stranger, boot, me, frame)
		l = hear(t, l, me, w, frame)
		proofs := 0
		for _, w := range sponsor.Words(l, me) {
			if k, answer, ok := join.Hear(j, stranger, w, frame+1); ok {
				j = k
				l = hear(t, l, me, answer, frame+2)
				proofs++
			}
		}
		p := sponsor.Proofs(l, me)
		if proofs != 1 || len(p) != 1 || p[0].Stranger != stranger {
			t.Fatalf("%v: %v", l, p)
		}
		welcome, e := join.Judge(p[0], api.Ring{First: 0, Next: 2})
		if k, _, ok := join.Hear(j, stranger, welcome, frame+3); e != api.OK || !ok || k.Phase != api.JoinIn {
			t.Fatalf("%v: %v", welcome, e)
		}
		l = hear(t, l, me, question(stranger, me, j.Nonce+1), frame+4) // has to be proved anew
		if len(sponsor.Proofs(l, me)) != 0 {
			t.Fatalf("%v", l)
		}
	}
}
