package link_test

import (
	"math"
	"math/rand/v2"
	"slices"
	"testing"

	"slotmesh/api"
	"slotmesh/link"
)

func count(t *testing.T, l []api.Link, peer int, acked bool) []api.Link {
	t.Helper()
	x, e := link.Count(l, peer, acked)
	if e != api.OK {
		t.Fatalf("%v and %d: %v", l, peer, e)
	}
	return x
}

func some(r *rand.Rand) []api.Link {
	var l []api.Link
	for p := range 60 {
		if r.IntN(8) == 0 {
			n := []int{0, 31, 30, r.IntN(32)}[r.IntN(4)]
			l = append(l, api.Link{Peer: p, Sent: n, Good: []int{0, n, r.IntN(n + 1)}[r.IntN(3)]})
		}
	}
	return l
}

// of returns the link to a peer.
func of(l []api.Link, peer int) api.Link {
	for _, x := range l {
		if x.Peer == peer {
			return x
		}
	}
	return api.Link{Peer: peer}
}

func bools(c byte, n int) []bool {
	l := make([]bool, n)
	for i := range l {
		l[i] = c == '+'
	}
	return l
}

// The examples of the chapter.
func TestExamples(t *testing.T) {
	for _, x := range []struct {
		acked            []bool
		sent, good, cost int
	}{
		{nil, 0, 0, 128}, {[]bool{false}, 1, 0, 256}, {[]bool{false, true}, 2, 1, 192}, {append(bools('+', 31), false), 16, 15, 136}, {bools('-', 31), 31, 0, 4096},
		{bools('+', 31), 31, 31, 128}, {bools('+', 32), 16, 16, 128}, {bools('-', 32), 16, 0, 2176}, {bools('-', 30), 30, 0, 3968},
	} {
		var l []api.Link
		for _, a := range x.acked {
			l = count(t, l, 5, a)
		}
		if g := of(l, 5); g.Sent != x.sent || g.Good != x.good || link.Cost(l, 5) != x.cost {
			t.Errorf("%v: %v, cost %d", x, l, link.Cost(l, 5))
		}
	}
}

// P19.1: S1; P19.2 (valid).
func TestCount(t *testing.T) {
	r := rand.New(rand.NewPCG(19, 1))
	for range 5000 {
		l := some(r)
		before := slices.Clone(l)
		peer, acked := r.IntN(60), r.IntN(2) == 0
		x := count(t, l, peer, acked)
		want := of(l, peer)
		want.Sent++
		if acked {
			want.Good++
		}
		if want.Sent == 32 {
			want.Sent, want.Good = 16, want.Good/2
		}
		i := 0
		for p := range 60 {
			has := slices.ContainsFunc(l, func(y api.Link) bool { return y.Peer == p })
			if p != peer && !has {
				continue
			}
			y := of(l, p)
			if p == peer {
				y = want
			}
			if i >= len(x) || x[i] != y {
				t.Fatalf("%v and %d, %v: %v", l, peer, acked, x)
			}
			i++
		}
		if i != len(x) {
			t.Fatalf("%v and %d: %v", l, peer, x)
		}
		for k := range x {
			x[k].Sent = -1
		}
		if !slices.Equal(l, before) {
			t.Fatal("the links have changed")
		}
	}
}

// P19.1: what is not valid.
func TestErrors(t *testing.T) {
	good := []api.Link{{Peer: 3, Sent: 4, Good: 4}}
	for _, p := range []int{-1, 60, math.MaxInt, math.MinInt} {
		if x, e := link.Count(good, p, true); e != api.ErrArg || len(x) > 0 || link.Cost(good, p) != 0 {
			t.Errorf("the peer %d: %v %v", p, x, e)
		}
	}
	for _, l := range [][]api.Link{
		{{Peer: -1}}, {{Peer: 60}}, {{Peer: 3}, {Peer: 3}}, {{Peer: 4}, {Peer: 3}}, {{Peer: 1, Sent: 32, Good: 5}}, {{Peer: 1, Sent: -1, Good: -1}}, {{Peer: 1, Sent: 5, Good: 6}}, {{Peer: 1, Sent: 5, Good: -1}},
		{{Peer: 1}, {Peer: 2, Sent: 40}}, {{Peer: math.MinInt}}, {{Peer: 1, Sent: math.MaxInt, Good: math.MaxInt}},
	} {
		if x, e := link.Count(l, 5, true); e != api.ErrArg || len(x) > 0 || link.Cost(l, 5) != 0 || link.Cost(l, 1) != 0 {
			t.Errorf("%v: %v %v", l, x, e)
		}
	}
	for _, l := range [][]api.Link{nil, {{Peer: 0}, {Peer: 59, Sent: 31, Good: 31}}, {{Peer: 1, Sent: 31}}} {
		for _, p := range []int{0, 1, 59} {
			count(t, l, p, false)
			if link.Cost(l, p) < 128 {
				t.Errorf("%v: %d", l, link.Cost(l, p))
			}
		}
	}
}

// P19.1: S2; P19.3 (bounds).
func TestCost(t *testing.T) {
	for sent := range 32 {
		for good := range sent + 1 {
			l := []api.Link{{Peer: 2, Sent: 3}, {Peer: 7, Sent: sent, Good: good}, {Peer: 9, Sent: 30}}
			c := link.Cost(l, 7)
			if c != min(4096, 128*(sent+1)/(good+1)) || c < 128 || (c == 128) != (sent == good) {
				t.Errorf("%d of %d: %d", good, sent, c)
			}
			if link.Cost(l, 8) != 128 || link.Cost(l, 59) != 128 {
				t.Error("a peer without an element")
			}
		}
	}
}

// P19.4 (better).
func TestBetter(t *testing.T) {
	r := rand.New(rand.NewPCG(19, 2))
	for range 5000 {
		l, p := some(r), r.IntN(60)
		yes, no, now := link.Cost(count(t, l, p, true), p), link.Cost(count(t, l, p, false), p), link.Cost(l, p)
		if yes > no || of(l, p).Sent < 31 && yes > now {
			t.Fatalf("%v and %d: %d, then %d or %d", l, p, now, yes, no)
		}
	}
}

// P19.5 (recovery).
func TestRecovery(t *testing.T) {
	for sent := range 32 {
		for good := range sent + 1 {
			start := []api.Link{{Peer: 7, Sent: sent, Good: good}}
			l := start
			for i := 1; i <= 96; i++ {
				l = count(t, l, 7, true)
				if c := link.Cost(l, 7); i == 5 && c > 896 || i == 96 && c > 160 {
					t.Errorf("%d of %d, and %d more: %d", good, sent, i, c)
				}
			}
			for range 160 {
				l = count(t, l, 7, false)
			}
			if c := link.Cost(l, 7); c < 2176 {
				t.Errorf("%d of %d, and 160 losses: %d", good, sent, c)
			}
		}
	}
}

// P19.6 (independence).
func TestIndependence(t *testing.T) {
	r := rand.New(rand.NewPCG(19, 3))
	for range 2000 {
		l, p, q, a, b := some(r), r.IntN(60), r.IntN(60), r.IntN(2) == 0, r.IntN(2) == 0
		if p == q {
			continue
		}
		if x, y := count(t, count(t, l, p, a), q, b), count(t, count(t, l, q, b), p, a); !slices.Equal(x, y) {
			t.Fatalf("%v, %d and %d: %v and %v", l, p, q, x, y)
		}
	}
}
