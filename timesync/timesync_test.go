package timesync_test

import (
	"math"
	"math/rand/v2"
	"testing"

	"slotmesh/api"
	"slotmesh/bound"
	"slotmesh/clock"
	"slotmesh/timesync"
)

var (
	out  = api.TimeState{Hops: 60, Source: -1}
	root = api.TimeState{Synced: true, Source: -1}
)

func member(hops, source, low, high, at int) api.TimeState {
	return api.TimeState{Synced: true, Span: api.Span{Low: low, High: high, At: at}, Hops: hops, Source: source}
}

// P9.1: I1.
func TestStart(t *testing.T) {
	if s := timesync.Start(true); s != root {
		t.Errorf("the root: %v", s)
	}
	if s := timesync.Start(false); s != out {
		t.Errorf("another node: %v", s)
	}
}

// P9.1: I2 by examples.
func TestHear(t *testing.T) {
	first := api.TimeHint{From: 3, Hops: 1, Bound: 10, ASN: 5, Local: 49000}
	a, e := timesync.Hear(out, first)
	want := api.TimeState{Synced: true, Span: api.Span{Low: 990, High: 1010, At: 49000}, Hops: 2, Source: 3, Heard: 5}
	if a != want || e != api.OK {
		t.Fatalf("%v %v", a, e)
	}
	b, e := timesync.Hear(a, api.TimeHint{From: 4, Hops: 0, Bound: 4, ASN: 6, Local: 59000})
	want = api.TimeState{Synced: true, Span: api.Span{Low: 996, High: 1004, At: 59000}, Hops: 1, Source: 4, Heard: 6}
	if b != want || e != api.OK {
		t.Fatalf("%v %v", b, e)
	}
	if c, e := timesync.Hear(b, api.TimeHint{From: 5, Hops: 1, Bound: 1, ASN: 6, Local: 59000}); c != b || e != api.OK {
		t.Errorf("not nearer: %v %v", c, e)
	}
	// the source is heard whatever its hops are, also if they are more
	for _, hops := range []int{0, 1, 30, 59} {
		c, e := timesync.Hear(b, api.TimeHint{From: 4, Hops: hops, Bound: 1, ASN: 7, Local: 69000})
		if e != api.OK || c.Hops != hops+1 || c.Source != 4 || c.Heard != 7 || c.Span != (api.Span{Low: 999, High: 1001, At: 69000}) {
			t.Errorf("the source with %d hops: %v %v", hops, c, e)
		}
	}
	for _, x := range []struct{ own, told int }{{2, 1}, {2, 2}, {2, 3}, {1, 1}, {60, 59}} {
		s := member(x.own, 3, 990, 1010, 49000)
		h := api.TimeHint{From: 4, Hops: x.told, Bound: 5, ASN: 6, Local: 59000}
		c, e := timesync.Hear(s, h)
		if x.told < x.own {
			if e != api.OK || c.Hops != x.told+1 || c.Source != 4 || c.Heard != 6 || c.Span != (api.Span{Low: 995, High: 1005, At: 59000}) {
				t.Errorf("%v: %v %v", x, c, e)
			}
		} else if c != s || e != api.OK {
			t.Errorf("%v: %v %v", x, c, e)
		}
	}
	wrong := api.TimeHint{From: 3, Hops: 1, Bound: 10, ASN: 5, Local: 48000}
	if c, e := timesync.Hear(a, wrong); c != a || e != api.ErrTime {
		t.Errorf("a hint that contradicts: %v %v", c, e)
	}
	wrong.From = 9
	wrong.Hops = 2
	if c, e := timesync.Hear(a, wrong); c != a || e != api.OK {
		t.Errorf("a hint that contradicts, but is not taken: %v %v", c, e)
	}
	far := api.TimeHint{From: 3, Hops: 1, Bound: 5, Local: 20000000000000}
	if c, e := timesync.Hear(a, far); c != a || e != api.ErrArg {
		t.Errorf("a span that is not valid: %v %v", c, e)
	}
	if c, e := timesync.Hear(out, far); c.Span.Low != -20000000000005 || e != api.OK {
		t.Errorf("a span that is not valid, taken: %v %v", c, e)
	}
}

// states are of all kinds, valid or not.
var states = []struct {
	s  api.TimeState
	ok bool
}{
	{out, true}, {root, true}, {member(1, 0, -5, 5, 0), true}, {member(60, 59, 0, 0, 9), true}, {member(61, 3, 0, 0, 0), false},
	{member(-1, 3, 0, 0, 0), false}, {member(5, 3, 1, 0, 0), false}, {member(5, -1, 0, 1, 0), true}, {member(5, -2, 0, 1, 0), false},
	{member(5, 60, 0, 1, 0), false}, {member(0, 7, 1, 0, 0), true}, {api.TimeState{Hops: 59, Source: -1}, false}, {api.TimeState{Source: -1}, false},
	{api.TimeState{Hops: 61}, false}, {api.TimeState{Hops: 60, Span: api.Span{Low: 1}, Source: 59, Heard: 1000000000}, true},
	{api.TimeState{Hops: 60, Heard: 1000000001}, false}, {api.TimeState{Hops: 60, Heard: -1}, false},
	{api.TimeState{Synced: true, Heard: -1}, false}, {api.TimeState{Synced: true, Source: -2}, false}, {api.TimeState{Synced: true, Heard: 1000000000}, true},
	{api.TimeState{Synced: true, Hops: math.MaxInt}, false}, {api.TimeState{Hops: 60, Source: math.MinInt}, false},
}

// P9.1: I2, what is not valid.
func TestHearErrors(t *testing.T) {
	good := api.TimeHint{From: 1, Hops: 59, Bound: 2000, ASN: 1, Local: 10000}
	for _, x := range states {
		if s, e := timesync.Hear(x.s, good); (e == api.ErrArg) == x.ok || !x.ok && s != x.s {
			t.Errorf("%v: %v %v", x.s, s, e)
		}
	}
	for _, bad := range []func(*api.TimeHint){
		func(h *api.TimeHint) { h.From = -1 }, func(h *api.TimeHint) { h.From = 60 }, func(h *api.TimeHint) { h.Hops = -1 }, func(h *api.TimeHint) { h.Hops = 60 },
		func(h *api.TimeHint) { h.Bound = -1 }, func(h *api.TimeHint) { h.Bound = 2001 }, func(h *api.TimeHint) { h.ASN = -1 }, func(h *api.TimeHint) { h.ASN = 1000000001 },
		func(h *api.TimeHint) { h.Local = math.MaxInt }, func(h *api.TimeHint) { h.Local = math.MinInt }, func(h *api.TimeHint) { h.Hops = math.MinInt },
	} {
		h := good
		bad(&h)
		for _, s := range []api.TimeState{out, root, member(3, 1, 0, 0, 0)} {
			if c, e := timesync.Hear(s, h); c != s || e != api.ErrArg {
				t.Errorf("%v of %v: %v %v", s, h, c, e)
			}
		}
	}
	good.From, good.Hops = 59, 0
	for _, from := range []int{0, 59} {
		good.From = from
		if s, e := timesync.Hear(out, good); e != api.OK || s.Source != from {
			t.Errorf("from %d: %v %v", from, s, e)
		}
	}
}

// P9.1: I4.
func TestBound(t *testing.T) {
	for _, x := range states {
		if x.ok {
			continue
		}
		if b, e := timesync.Bound(x.s, 0); b != 0 || e != api.ErrArg {
			t.Errorf("%v: %d %v", x.s, b, e)
		}
	}
	for _, x := range []struct {
		s     api.TimeState
		local int
		b     int
		e     api.Errno
	}{
		{out, 0, 0, api.ErrTime}, {out, math.MinInt, 0, api.ErrTime},
		{root, 5, 0, api.OK}, {root, math.MaxInt, 0, api.OK}, {member(0, 7, 1, 0, 0), math.MinInt, 0, api.OK},
		{member(2, 1, 0, 0, 0), 0, 1, api.OK}, {member(2, 1, 0, 1, 0), 0, 2, api.OK}, {member(2, 1, 0, 2, 0), 0, 2, api.OK},
		{member(2, 1, 90, 110, 0), 0, 11, api.OK}, {member(2, 1, 0, 0, 0), 1000000, 52, api.OK},
		{member(2, 1, 0, 3998, 0), 0, 2000, api.OK}, {member(2, 1, 0, 3997, 0), 0, 2000, api.OK}, {member(2, 1, 0, 3999, 0), 0, 0, api.ErrTime},
		{member(2, 1, 0, 0, 100), 99, 0, api.ErrArg}, {member(2, 1, 0, 0, 100), 20000000000001, 0, api.ErrArg}, {member(2, 1, 0, 20000000000000, 100), 100, 0, api.ErrRange},
	} {
		if b, e := timesync.Bound(x.s, x.local); b != x.b || e != x.e {
			t.Errorf("%v at %d: %d %v", x.s, x.local, b, e)
		}
	}
}

// P9.1: I3; P9.7 (fading).
func TestTick(t *testing.T) {
	for _, x := range states {
		for _, local := range []int{0, 10, 1000000000, math.MinInt, math.MaxInt} {
			_, e := timesync.Bound(x.s, local)
			want := x.s
			if x.ok && x.s.Synced && x.s.Hops > 0 && e != api.OK {
				want = out
			}
			if s := timesync.Tick(x.s, local); s != want {
				t.Errorf("%v at %d: %v", x.s, local, s)
			}
		}
	}
	r := rand.New(rand.NewPCG(9, 1))
	for range 1000 {
		s := member(1+r.IntN(60), r.IntN(60), -r.IntN(2500), r.IntN(2500), r.IntN(1000000))
		now := s.Span.At + r.IntN(100000000)
		later := now + r.IntN(100000000)
		if timesync.Tick(s, now) == out && timesync.Tick(s, later) != out {
			t.Fatalf("%v is lost at %d, and not at %d", s, now, later)
		}
	}
	s := member(1, 0, 0, 0, 0)
	if timesync.Tick(s, 39100000) != s || timesync.Tick(s, 39400000) != out {
		t.Error("a time that was exact lasts for 39 seconds")
	}
}

// P9.2 (truth), P9.3 (estimate) and P9.6 (better): a clock, and what its node hears.
func TestTruth(t *testing.T) {
	r := rand.New(rand.NewPCG(9, 2))
	for range 300 {
		c := api.Clock{Offset: r.IntN(2000000001) - 1000000000, Drift: []int{50, -50, r.IntN(101) - 50}[r.IntN(3)]}
		s := timesync.Start(false)
		at := r.IntN(1000000)
		for range 30 {
			at += r.IntN(3000000)
			h := api.TimeHint{From: r.IntN(5), Hops: r.IntN(4), Bound: r.IntN(100), ASN: (at + 5000) / 10000}
			began := h.ASN*10000 + r.IntN(2*h.Bound+1) - h.Bound
			if began < at {
				continue
			}
			at = began
			h.Local, _ = clock.Show(c, began)
			next, e := timesync.Hear(s, h)
			if e != api.OK {
				t.Fatalf("%v of %v: %v", s, h, e)
			}
			if d := began - next.Span.At; next.Span.At == h.Local && (d < next.Span.Low || d > next.Span.High) {
				t.Fatalf("%v of %v: %v is false", s, h, next)
			}
			if s.Synced {
				before, _ := bound.Grow(s.Span, h.Local)
				after := next.Span
				if next != s && (after.Low < before.Low-1 || after.High > before.High+1) {
					t.Fatalf("%v of %v: %v is worse than %v", s, h, next, before)
				}
			}
			s = next
			later := at + r.IntN(20000000)
			local, _ := clock.Show(c, later)
			b, e := timesync.Bound(s, local)
			if e != api.OK {
				continue
			}
			g, _ := bound.Grow(s.Span, local)
			middle := (g.Low + g.High) >> 1
			if d := later - local - middle; max(d, -d) > b {
				t.Fatalf("%v at %d: the estimate is wrong by %d of %d", s, later, d, b)
			}
		}
	}
}

// P9.4 (nearer) and P9.5 (refusal).
func TestNearer(t *testing.T) {
	r := rand.New(rand.NewPCG(9, 3))
	for range 3000 {
		s := member(1+r.IntN(6), r.IntN(5), -r.IntN(100), r.IntN(100), r.IntN(100))
		h := api.TimeHint{From: r.IntN(5), Hops: r.IntN(8), Bound: r.IntN(100), ASN: r.IntN(3), Local: r.IntN(20000)}
		next, e := timesync.Hear(s, h)
		taken := h.Hops < s.Hops || h.From == s.Source
		switch {
		case !taken && (next != s || e != api.OK):
			t.Fatalf("%v of %v: %v %v", s, h, next, e)
		case e != api.OK && next != s:
			t.Fatalf("%v of %v: %v %v", s, h, next, e)
		case taken && e == api.OK && (next.Hops != h.Hops+1 || next.Source != h.From || next.Heard != h.ASN):
			t.Fatalf("%v of %v: %v", s, h, next)
		}
		if met, me := bound.Meet(s.Span, api.Span{Low: h.ASN*10000 - h.Bound - h.Local, High: h.ASN*10000 + h.Bound - h.Local, At: h.Local}); taken && (me != e || e == api.OK && next.Span != met) {
			t.Fatalf("%v of %v: %v %v", s, h, next, e)
		}
	}
}

// P9.8 (root).
func TestRoot(t *testing.T) {
	r := rand.New(rand.NewPCG(9, 4))
	for range 500 {
		h := api.TimeHint{From: r.IntN(60), Hops: r.IntN(60), Bound: r.IntN(2001), ASN: r.IntN(1000), Local: r.IntN(10000000)}
		if s, e := timesync.Hear(root, h); s != root || e != api.OK {
			t.Fatalf("%v: %v %v", h, s, e)
		}
		if s := timesync.Tick(root, r.IntN(1000000)); s != root {
			t.Fatalf("after a tick: %v", s)
		}
	}
}
