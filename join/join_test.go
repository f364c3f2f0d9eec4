package join_test

import (
	"math"
	"math/rand/v2"
	"testing"

	"slotmesh/api"
	"slotmesh/join"
)

var out = api.Join{Sponsor: -1}

func ask(t *testing.T, j api.Join, me, boot, sponsor, frame int) (api.Join, api.Word) {
	t.Helper()
	x, w, e := join.Ask(j, me, boot, sponsor, frame)
	if e != api.OK {
		t.Fatalf("%v: %v", j, e)
	}
	return x, w
}

// wrongStates are states that are not valid.
var wrongStates = []api.Join{
	{Phase: -1, Sponsor: 3}, {Phase: 4, Sponsor: 3}, {Phase: 1, Sponsor: -2}, {Phase: 1, Sponsor: 60}, {Phase: 1, Sponsor: 3, Nonce: -1}, {Phase: 1, Sponsor: 3, Nonce: 1000000001}, {Phase: 1, Sponsor: 3, Since: -1}, {Phase: 1, Sponsor: 3, Since: 1000000001},
	{Phase: 1, Sponsor: 3, Tries: -1}, {Phase: 1, Sponsor: 3, Tries: 256}, {Phase: 0, Sponsor: 3, Tries: 256}, {Phase: math.MinInt}, {Phase: 2, Sponsor: math.MaxInt}, {Phase: 0, Sponsor: -2}, {Phase: 0, Sponsor: -1, Since: math.MinInt},
}

// The examples of the chapter; P30.2 (the dialogue).
func TestDialogue(t *testing.T) {
	j, w := ask(t, out, 5, 2, 3, 10)
	if j != (api.Join{Phase: api.JoinAsked, Sponsor: 3, Nonce: 513, Since: 10, Tries: 1}) || w != (api.Word{Kind: api.WordAsk, Stranger: 5, Sponsor: 3, Nonce: 513}) {
		t.Fatalf("%v %v", j, w)
	}
	challenge := api.Word{Kind: api.WordChallenge, Stranger: 5, Sponsor: 3, Nonce: 513, Challenge: 7}
	j, proof, ok := join.Hear(j, 5, challenge, 11)
	if j != (api.Join{Phase: api.JoinProved, Sponsor: 3, Nonce: 513, Since: 10, Tries: 1}) || proof != (api.Word{Kind: api.WordProof, Stranger: 5, Sponsor: 3, Nonce: 513, Challenge: 7, Key: 1000005}) || !ok {
		t.Fatalf("%v %v %v", j, proof, ok)
	}
	if k, again, ok := join.Hear(j, 5, challenge, 12); k != j || again != proof || !ok {
		t.Errorf("the challenge again: %v %v %v", k, again, ok)
	}
	welcome, e := join.Judge(proof, api.Ring{First: 1, Next: 3})
	if e != api.OK || welcome != (api.Word{Kind: api.WordWelcome, Stranger: 5, Sponsor: 3, Nonce: 513, Key: 1000005, Ring: api.Ring{First: 1, Next: 3}}) {
		t.Fatalf("%v %v", welcome, e)
	}
	in, none, ok := join.Hear(j, 5, welcome, 13)
	if in != (api.Join{Phase: api.JoinIn, Sponsor: 3, Nonce: 513, Since: 10, Tries: 1}) || none != (api.Word{}) || !ok {
		t.Fatalf("%v %v %v", in, none, ok)
	}
	if x := join.Late(in, 1000); x != in {
		t.Errorf("one that is in: %v", x)
	}
	for _, w := range []api.Word{challenge, welcome} {
		if x, a, ok := join.Hear(in, 5, w, 14); x != in || a != (api.Word{}) || ok {
			t.Errorf("one that is in hears %v: %v %v %v", w, x, a, ok)
		}
	}
}

// P30.1: AD1, in the order of its errors.
func TestAsk(t *testing.T) {
	wild := []int{-1, math.MaxInt, math.MinInt}
	refused := func(j api.Join, me, boot, sponsor, frame int, want api.Errno) {
		t.Helper()
		if x, w, e := join.Ask(j, me, boot, sponsor, frame); e != want || x != (api.Join{}) || w != (api.Word{}) {
			t.Errorf("%v, %d %d %d %d: %v %v %v", j, me, boot, sponsor, frame, x, w, e)
		}
	}
	in := api.Join{Phase: api.JoinIn, Sponsor: 3, Tries: 255}
	for _, j := range []api.Join{out, in} {
		for _, n := range append(wild, 60) {
			refused(j, n, 2, 3, 10, api.ErrArg)
			refused(j, 5, 2, n, 10, api.ErrArg)
		}
		for _, n := range append(wild, 1000001) {
			refused(j, 5, n, 3, 10, api.ErrArg)
		}
		for _, n := range append(wild, 1000000001) {
			refused(j, 5, 2, 3, n, api.ErrArg)
		}
		refused(j, 3, 2, 3, 10, api.ErrArg)
	}
	for _, j := range wrongStates {
		refused(j, 5, 2, 3, 10, api.ErrArg)
	}
	for phase := api.JoinAsked; phase <= api.JoinIn; phase++ {
		refused(api.Join{Phase: phase, Sponsor: 3, Tries: 255}, 5, 2, 3, 10, api.ErrState)
	}
	refused(api.Join{Sponsor: -1, Tries: 255}, 5, 2, 3, 10, api.ErrLimit)
	j, w := ask(t, api.Join{Sponsor: 59, Tries: 254, Nonce: 1000000000, Since: 1000000000}, 0, 1000000, 59, 1000000000)
	if j != (api.Join{Phase: api.JoinAsked, Sponsor: 59, Nonce: 256000255, Since: 1000000000, Tries: 255}) || w != (api.Word{Kind: api.WordAsk, Stranger: 0, Sponsor: 59, Nonce: 256000255}) {
		t.Errorf("the borders: %v %v", j, w)
	}
	if j, _ := ask(t, out, 59, 0, 0, 0); j.Nonce != 1 || j.Since != 0 {
		t.Errorf("the first question: %v", j)
	}
}

// hears is AD2 by its definition.
func hears(j api.Join, me int, w api.Word, frame int) (api.Join, api.Word, bool) {
	in := func(n, low, high int) bool { return n >= low && n <= high }
	valid := in(j.Phase, 0, 3) && in(j.Tries, 0, 255) && in(j.Since, 0, 1000000000) && in(j.Nonce, 0, 1000000000) && in(j.Sponsor, -1, 59)
	formed := in(w.Stranger, 0, 59) && in(w.Sponsor, 0, 59) && w.Stranger != w.Sponsor && in(w.Nonce, 0, 1000000000) && in(w.Challenge, 0, 1000000000) && in(w.Kind, 1, 4)
	if !valid || !formed || !in(frame, 0, 1000000000) || w.Stranger != me || w.Sponsor != j.Sponsor || w.Nonce != j.Nonce {
		return j, api.Word{}, false
	}
	if w.Kind == 2 && (j.Phase == 1 || j.Phase == 2) {
		j.Phase = 2
		return j, api.Word{Kind: 3, Stranger: me, Sponsor: w.Sponsor, Nonce: w.Nonce, Challenge: w.Challenge, Key: 1000000 + me}, true
	}
	if w.Kind == 4 && j.Phase == 2 && w.Key == 1000000+me {
		j.Phase = 3
		return j, api.Word{}, true
	}
	return j, api.Word{}, false
}

// P30.1: AD2; P30.3 (only by the root's word) and P30.4 (forgery).
func TestHear(t *testing.T) {
	r := rand.New(rand.NewPCG(30, 1))
	pick := func(n ...int) int { return n[r.IntN(len(n))] }
	answered, in := 0, 0
	for range 100000 {
		j := api.Join{Phase: r.IntN(4), Sponsor: pick(3, 3, 3, 0, 59), Nonce: pick(513, 513, 513, 0, 1000000000), Since: pick(0, 1000000000), Tries: pick(0, 255)}
		w := api.Word{Kind: 1 + r.IntN(4), Stranger: pick(5, 5, 5, 59, 0), Sponsor: j.Sponsor, Nonce: j.Nonce, Challenge: pick(0, 7, 1000000000), Key: pick(1000005, 1000005, 1000003, 0, 1000000, 1000059), Ring: api.Ring{First: -9, Next: r.IntN(3)}}
		me, frame := pick(5, 5, 5, w.Stranger), pick(0, 5, 1000000000)
		if r.IntN(3) == 0 {
			n := pick(-1, -2, 4, 60, 256, 1000000001, math.MaxInt, math.MinInt, 6)
			switch r.IntN(12) {
			case 0:
				j.Phase = n
			case 1:
				j.Sponsor = n
			case 2:
				j.Nonce = n
			case 3:
				j.Since = n
			case 4:
				j.Tries = n
			case 5:
				w.Kind = n
			case 6:
				w.Stranger, me = n, n
			case 7:
				w.Sponsor, j.Sponsor = n, n
			case 8:
				w.Nonce = n
			case 9:
				w.Challenge = n
			case 10:
				frame = n
			default:
				w.Sponsor = n
			}
		}
		x, a, ok := join.Hear(j, me, w, frame)
		wx, wa, wok := hears(j, me, w, frame)
		if x != wx || a != wa || ok != wok {
			t.Fatalf("%v of %d hears %v in %d: %v %v %v", j, me, w, frame, x, a, ok)
		}
		if ok && a.Kind > 0 {
			answered++
		}
		if x.Phase == api.JoinIn && j.Phase != api.JoinIn {
			in++
			if j.Phase != api.JoinProved || w.Kind != api.WordWelcome || w.Key != 1000000+me || w.Nonce != j.Nonce || w.Sponsor != j.Sponsor {
				t.Fatalf("%v is in by %v", j, w)
			}
		}
	}
	if answered < 1000 || in < 500 {
		t.Errorf("%d answers, %d are in", answered, in)
	}
}

// P30.5 (nonces).
func TestNonces(t *testing.T) {
	seen := map[int]bool{}
	for _, boot := range []int{0, 1, 2, 3, 999999, 1000000} {
		j := out
		for range 255 {
			x, w := ask(t, j, 5, boot, 3, 10)
			if seen[x.Nonce] || w.Nonce != x.Nonce {
				t.Fatalf("boot %d: the nonce %d again", boot, x.Nonce)
			}
			seen[x.Nonce] = true
			j = join.Late(x, 30)
		}
		if _, _, e := join.Ask(j, 5, boot, 3, 40); e != api.ErrLimit {
			t.Errorf("the 256th question: %v", e)
		}
	}
}

// P30.1: AD3; P30.6 (in time).
func TestLate(t *testing.T) {
	for phase := range 4 {
		j := api.Join{Phase: phase, Sponsor: 3, Nonce: 513, Since: 10, Tries: 7}
		for _, frame := range []int{0, 10, 21, 22, 23, 1000000000, math.MaxInt, -1, math.MinInt} {
			want := j
			if (phase == api.JoinAsked || phase == api.JoinProved) && frame >= 22 {
				want = api.Join{Sponsor: -1, Tries: 7}
			}
			if x := join.Late(j, frame); x != want {
				t.Errorf("%v in %d: %v", j, frame, x)
			}
		}
	}
	for _, j := range wrongStates {
		if x := join.Late(j, 1000000000); x != j {
			t.Errorf("%v: %v", j, x)
		}
	}
	j, _ := ask(t, out, 5, 2, 3, 10)
	j = join.Late(j, 22)
	if k, w := ask(t, j, 5, 2, 4, 22); k.Sponsor != 4 || w.Sponsor != 4 || k.Tries != 2 || w.Nonce != 514 {
		t.Errorf("another sponsor: %v %v", k, w)
	}
}

// P30.1: AD4; P30.7 (judgement).
func TestJudge(t *testing.T) {
	good := api.Word{Kind: api.WordProof, Stranger: 5, Sponsor: 3, Nonce: 9, Challenge: 7, Key: 1000005, Ring: api.Ring{First: 77, Next: 5}}
	ring := api.Ring{First: 0, Next: 1}
	refused := func(w api.Word, r api.Ring, want api.Errno) {
		t.Helper()
		if x, e := join.Judge(w, r); e != want || x != (api.Word{}) {
			t.Errorf("%v with %v: %v %v", w, r, x, e)
		}
	}
	for _, r := range []api.Ring{{}, {First: -1, Next: 1}, {First: 1, Next: 1}, {First: 2, Next: 1}, {First: 0, Next: 1000000001}, {First: math.MinInt, Next: math.MaxInt}, {First: 5, Next: math.MinInt}} {
		refused(good, r, api.ErrArg)
		refused(api.Word{Kind: 1, Stranger: 5, Sponsor: 3}, r, api.ErrArg)
	}
	for _, r := range []api.Ring{{First: 0, Next: 1}, {First: 999999999, Next: 1000000000}} {
		if x, e := join.Judge(good, r); e != api.OK || x != (api.Word{Kind: api.WordWelcome, Stranger: 5, Sponsor: 3, Nonce: 9, Key: 1000005, Ring: r}) {
			t.Errorf("%v: %v %v", r, x, e)
		}
	}
	for _, change := range []func(*api.Word){
		func(w *api.Word) { w.Stranger = -1 }, func(w *api.Word) { w.Stranger = 60 }, func(w *api.Word) { w.Sponsor = -1 }, func(w *api.Word) { w.Sponsor = 60 }, func(w *api.Word) { w.Sponsor = 5 }, func(w *api.Word) { w.Nonce = -1 },
		func(w *api.Word) { w.Nonce = 1000000001 }, func(w *api.Word) { w.Challenge = -1 }, func(w *api.Word) { w.Challenge = 1000000001 }, func(w *api.Word) { w.Kind = 0 }, func(w *api.Word) { w.Kind = 5 }, func(w *api.Word) { w.Kind = math.MinInt },
	} {
		w := good
		change(&w)
		refused(w, ring, api.ErrArg)
	}
	for _, kind := range []int{api.WordAsk, api.WordChallenge, api.WordWelcome} {
		w := good
		w.Kind, w.Key = kind, 0
		refused(w, ring, api.ErrKind)
	}
	for _, key := range []int{0, 1000003, 1000004, 1000006, -1, math.MaxInt} {
		w := good
		w.Key = key
		refused(w, ring, api.ErrKey)
	}
	edge := api.Word{Kind: api.WordProof, Stranger: 59, Sponsor: 0, Nonce: 1000000000, Challenge: 1000000000, Key: 1000059}
	if x, e := join.Judge(edge, ring); e != api.OK || x.Stranger != 59 || x.Challenge != 0 {
		t.Errorf("%v %v", x, e)
	}
}
