package guard_test

import (
	"math"
	"math/rand/v2"
	"testing"

	"slotmesh/api"
	"slotmesh/clock"
	"slotmesh/guard"
	"slotmesh/timesync"
)

var root = timesync.Start(true)

func member(low, high, at int) api.TimeState {
	return api.TimeState{Synced: true, Span: api.Span{Low: low, High: high, At: at}, Hops: 1}
}

// P10.1: J1 and J2 by examples and borders.
func TestExamples(t *testing.T) {
	const end = 10000000000000
	s := member(90, 110, 9900)
	for _, x := range []struct {
		s         api.TimeState
		c         api.Clock
		asn       int
		start     int
		low, high int
		e         api.Errno
	}{
		{root, api.Clock{}, 7, 0, -2004, 2004, api.OK},
		{root, api.Clock{}, 0, 0, -2004, 2004, api.OK},
		{root, api.Clock{Offset: 100}, 0, 0, -2004, 2004, api.OK},
		{root, api.Clock{Offset: -1}, 0, 1, -2003, 2005, api.OK},
		{api.TimeState{Synced: true, Span: api.Span{Low: 100, High: 300}}, api.Clock{}, 7, 0, -2004, 2004, api.OK},
		{root, api.Clock{Offset: 100}, 1, -100, -2104, 1904, api.OK},
		{root, api.Clock{Offset: -100}, 1, 100, -1904, 2104, api.OK},
		{s, api.Clock{Offset: -100}, 1, 0, -2015, 2015, api.OK},
		{s, api.Clock{Offset: -95}, 1, -5, -2020, 2010, api.OK},
		{member(-5, 4, 10000), api.Clock{}, 1, 1, -2010, 2012, api.OK}, // the middle is -1
		{member(4, 5, 9990), api.Clock{}, 1, -4, -2011, 2003, api.OK},
		{timesync.Start(false), api.Clock{}, 0, 0, 0, 0, api.ErrTime},
		{root, api.Clock{}, 999999999, 0, -2004, 2004, api.OK},
		{root, api.Clock{}, 1000000000, 0, 0, 0, api.ErrArg},
		{root, api.Clock{}, -1, 0, 0, 0, api.ErrArg},
		{root, api.Clock{}, math.MaxInt, 0, 0, 0, api.ErrArg},
		{root, api.Clock{}, math.MinInt, 0, 0, 0, api.ErrArg},
		{root, api.Clock{Drift: 51}, 0, 0, 0, 0, api.ErrArg},
		{timesync.Start(false), api.Clock{Drift: 51}, 0, 0, 0, 0, api.ErrArg},
		{timesync.Start(false), api.Clock{}, -1, 0, 0, 0, api.ErrArg},
		{api.TimeState{Synced: true, Source: -2}, api.Clock{}, 0, 0, 0, 0, api.ErrArg},
		{api.TimeState{Synced: true, Hops: 1, Span: api.Span{Low: math.MinInt, High: math.MinInt}}, api.Clock{}, 0, 0, 0, 0, api.ErrArg},
		{member(90, 110, 9901), api.Clock{Offset: -100}, 1, 0, 0, 0, api.ErrArg}, // its own time was before At
		{member(0, 3999, 0), api.Clock{}, 1, 0, 0, 0, api.ErrTime},
		{root, api.Clock{Drift: -50}, 999999999, 0, 0, 0, api.ErrRange},
		{root, api.Clock{Offset: -1000000000}, 999999999, 0, 0, 0, api.ErrRange},
		{root, api.Clock{Offset: -10000}, 999999999, 10000, 7996, 12004, api.OK},
		{root, api.Clock{Offset: -10001}, 999999999, 0, 0, 0, api.ErrRange},
		{root, api.Clock{Drift: 50}, 2, 0, -2004, 2004, api.OK}, // 20000 is left out, 20001 is shown at 20000
		{root, api.Clock{Drift: -50}, 2, 2, -2002, 2006, api.OK},
		{root, api.Clock{Drift: -50, Offset: 1}, 2, 0, -2004, 2004, api.OK},
		{root, api.Clock{Offset: 10000}, 1, -10000, -12004, -7996, api.OK},
		{root, api.Clock{Offset: 1000000000}, 1, -10000, -12004, -7996, api.OK},
	} {
		if start, e := guard.Send(x.s, x.c, x.asn); start != x.start || e != x.e {
			t.Errorf("%v %v in %d begins at %d %v", x.s, x.c, x.asn, start, e)
		}
		if open, e := guard.Listen(x.s, x.c, x.asn); open != (api.Range{Low: x.low, High: x.high}) || e != x.e {
			t.Errorf("%v %v in %d listens from %v %v", x.s, x.c, x.asn, open, e)
		}
	}
}

// P10.1: J3.
func TestCatches(t *testing.T) {
	for _, x := range []struct {
		start, low, high int
		want             bool
	}{{0, 0, 0, true}, {-1, 0, 5, false}, {0, 0, 5, true}, {5, 0, 5, true}, {6, 0, 5, false}, {3, 5, 1, false}, {math.MinInt, math.MinInt, math.MaxInt, true}} {
		if guard.Catches(x.start, api.Range{Low: x.low, High: x.high}) != x.want {
			t.Errorf("%v", x)
		}
	}
}

// some returns a clock, a state that is true for it, and a slot after the time for which it is.
func some(r *rand.Rand) (api.TimeState, api.Clock, int) {
	if r.IntN(8) == 0 {
		return root, api.Clock{}, r.IntN(1000000)
	}
	c := api.Clock{Offset: r.IntN(2000001) - 1000000, Drift: []int{-50, 50, r.IntN(101) - 50}[r.IntN(3)]}
	t := r.IntN(100000000)
	at, _ := clock.Show(c, t)
	s := member(t-at-r.IntN(100), t-at+r.IntN(100), at)
	return s, c, t/10000 + 1 + r.IntN(200)
}

// P10.1 and P10.5 (windows): compared with a search for the first time.
func TestFirstTime(t *testing.T) {
	r := rand.New(rand.NewPCG(10, 1))
	for range 3000 {
		s, c, asn := some(r)
		start, e := guard.Send(s, c, asn)
		if e != api.OK {
			continue
		}
		m := 0
		if s.Hops > 0 {
			m = int(math.Floor(float64(s.Span.Low+s.Span.High) / 2))
		}
		own := 10000*asn - m
		now, _ := clock.Show(c, 10000*asn+start)
		if now < own {
			t.Fatalf("%v %v in %d begins at %d: too early", s, c, asn, start)
		}
		if 10000*asn+start > 0 {
			if before, _ := clock.Show(c, 10000*asn+start-1); before >= own {
				t.Fatalf("%v %v in %d begins at %d: too late", s, c, asn, start)
			}
		}
		b, _ := timesync.Bound(s, own)
		open, e := guard.Listen(s, c, asn)
		if e != api.OK || open.Low != start-2004-b || open.High != start+2004+b {
			t.Fatalf("%v %v in %d listens from %v %v", s, c, asn, open, e)
		}
		if later, e := guard.Listen(s, c, asn+r.IntN(10)); e == api.OK && later.High-later.Low < open.High-open.Low {
			t.Fatalf("%v %v: %v becomes %v", s, c, open, later)
		}
	}
}

// P10.2 (on time).
func TestOnTime(t *testing.T) {
	r := rand.New(rand.NewPCG(10, 2))
	tried := 0
	for range 3000 {
		s, c, asn := some(r)
		start, e := guard.Send(s, c, asn)
		if e != api.OK {
			continue
		}
		tried++
		m := (s.Span.Low + s.Span.High) >> 1
		b, _ := timesync.Bound(s, 10000*asn-m)
		if start > b+2 || start < -b-2 {
			t.Fatalf("%v %v in %d begins at %d, with the bound %d", s, c, asn, start, b)
		}
	}
	if tried < 1000 {
		t.Errorf("only %d states", tried)
	}
}

// P10.3 (caught) and P10.4 (no overlaps).
func TestCaught(t *testing.T) {
	r := rand.New(rand.NewPCG(10, 3))
	tried := 0
	for range 20000 {
		a, ca, asn := some(r)
		b, cb, other := some(r)
		asn = max(asn, other)
		start, e1 := guard.Send(a, ca, asn)
		open, e2 := guard.Listen(b, cb, asn)
		if e1 != api.OK || e2 != api.OK {
			continue
		}
		tried++
		if !guard.Catches(start, open) {
			t.Fatalf("%v %v is not caught by %v %v in %d", a, ca, b, cb, asn)
		}
		if next, e := guard.Send(b, cb, asn+1); e == api.OK && start+4000 >= next+10000 {
			t.Fatalf("%v %v in %d overlaps", a, ca, asn)
		}
	}
	if tried < 1000 {
		t.Errorf("only %d pairs", tried)
	}
}

// P10.6 (root) and P10.7 (slots).
func TestSlots(t *testing.T) {
	r := rand.New(rand.NewPCG(10, 4))
	for range 3000 {
		asn := r.IntN(999999999)
		if start, e := guard.Send(root, api.Clock{}, asn); start != 0 || e != api.OK {
			t.Fatalf("the root in %d: %d %v", asn, start, e)
		}
		if open, e := guard.Listen(root, api.Clock{}, asn); open != (api.Range{Low: -2004, High: 2004}) || e != api.OK {
			t.Fatalf("the root in %d: %v %v", asn, open, e)
		}
		s, c, asn := some(r)
		one, e1 := guard.Send(s, c, asn)
		two, e2 := guard.Send(s, c, asn+1)
		if d := two + 10000 - one; e1 == api.OK && e2 == api.OK && one+10000*asn > 0 && (d < 9998 || d > 10002) {
			t.Fatalf("%v %v from %d on: %d", s, c, asn, d)
		}
	}
}
