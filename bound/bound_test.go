package bound_test

import (
	"math"
	"math/rand/v2"
	"testing"

	"slotmesh/api"
	"slotmesh/bound"
	"slotmesh/clock"
)

const (
	wide  = 20000000000000
	early = -2000000000
)

func span(low, high, at int) api.Span { return api.Span{Low: low, High: high, At: at} }

// added is what growing adds on each side.
func added(e int) int {
	n := e / 1000000 * 51
	rest := e % 1000000 * 51
	n += rest / 1000000
	if rest%1000000 > 0 {
		n++
	}
	return n + 1
}

func grow(t *testing.T, s api.Span, now int) api.Span {
	t.Helper()
	g, e := bound.Grow(s, now)
	if e != api.OK {
		t.Fatalf("%v to %d: %v", s, now, e)
	}
	return g
}

func around(n int) []int { return []int{n - 1, n, n + 1} }

// P8.1: H1.
func TestValid(t *testing.T) {
	for _, x := range []struct {
		s  api.Span
		ok bool
	}{
		{span(0, 0, 0), true}, {span(-5, 5, 100), true}, {span(1, 0, 0), false}, {span(5, 5, 0), true},
		{span(-wide, wide, wide), true}, {span(-wide-1, 0, 0), false}, {span(0, wide+1, 0), false},
		{span(wide+1, wide+1, 0), false}, {span(-wide-1, -wide-1, 0), false},
		{span(0, 0, early), true}, {span(0, 0, early-1), false}, {span(0, 0, wide+1), false},
		{span(math.MinInt, math.MaxInt, 0), false}, {span(0, 0, math.MaxInt), false}, {span(0, 0, math.MinInt), false},
	} {
		want := -1
		if x.ok {
			want = x.s.High - x.s.Low
		}
		if bound.Valid(x.s) != x.ok || bound.Width(x.s) != want {
			t.Errorf("%v: %v, width %d", x.s, bound.Valid(x.s), bound.Width(x.s))
		}
	}
}

// P8.1: H2.
func TestGrow(t *testing.T) {
	s := span(-5, 5, 100)
	for _, x := range []struct {
		s    api.Span
		now  int
		want api.Span
		e    api.Errno
	}{
		{s, 100, span(-6, 6, 100), api.OK},
		{s, 101, span(-7, 7, 101), api.OK},
		{s, 1000100, span(-57, 57, 1000100), api.OK},
		{s, 1000101, span(-58, 58, 1000101), api.OK},
		{s, 99, api.Span{}, api.ErrArg},
		{s, 100 + 627451, span(-39, 39, 627551), api.OK}, // 51 times as many are one more than millions
		{s, 100 + 3000000, span(-159, 159, 3000100), api.OK},
		{s, wide, span(-5-added(wide-100), 5+added(wide-100), wide), api.OK},
		{s, wide + 1, api.Span{}, api.ErrArg},
		{s, math.MaxInt, api.Span{}, api.ErrArg},
		{s, math.MinInt, api.Span{}, api.ErrArg},
		{span(5, -5, 100), 200, api.Span{}, api.ErrArg},
		{span(5, -5, 100), 0, api.Span{}, api.ErrArg},
		{span(-wide, 0, 0), 0, api.Span{}, api.ErrRange},
		{span(0, wide, 0), 0, api.Span{}, api.ErrRange},
		{span(-wide+1, wide-1, 0), 0, span(-wide, wide, 0), api.OK},
		{span(-wide+1, wide-1, 0), 1, api.Span{}, api.ErrRange},
		{span(0, 0, early), wide, span(-added(wide-early), added(wide-early), wide), api.OK},
	} {
		if g, e := bound.Grow(x.s, x.now); g != x.want || e != x.e {
			t.Errorf("%v to %d: %v %v", x.s, x.now, g, e)
		}
	}
	r := rand.New(rand.NewPCG(8, 1))
	for range 3000 {
		s := span(-r.IntN(1000), r.IntN(1000), r.IntN(2000000)-1000000)
		e := []int{0, 1, r.IntN(100), 19607 + r.IntN(3), 1000000 * r.IntN(5000), r.IntN(1000000000)}[r.IntN(6)]
		if g := grow(t, s, s.At+e); g != span(s.Low-added(e), s.High+added(e), s.At+e) {
			t.Fatalf("%v after %d: %v", s, e, g)
		}
	}
}

// meet is the meeting by its definition.
func meet(a, b api.Span) (api.Span, api.Errno) {
	if !bound.Valid(a) || !bound.Valid(b) {
		return api.Span{}, api.ErrArg
	}
	if a.At > b.At {
		a, b = b, a
	}
	a.Low, a.High = a.Low-added(b.At-a.At), a.High+added(b.At-a.At)
	if a.At == b.At {
		b.Low, b.High = b.Low-1, b.High+1
	}
	a.At = b.At
	if !bound.Valid(a) || !bound.Valid(b) {
		return api.Span{}, api.ErrRange
	}
	m := span(max(a.Low, b.Low), min(a.High, b.High), b.At)
	if m.Low > m.High {
		return api.Span{}, api.ErrTime
	}
	return m, api.OK
}

// P8.1: H3; P8.5 (order).
func TestMeet(t *testing.T) {
	for _, x := range []struct {
		a, b, want api.Span
		e          api.Errno
	}{
		{span(-5, 5, 100), span(0, 9, 1000100), span(0, 9, 1000100), api.OK},
		{span(-5, 5, 100), span(8, 9, 100), api.Span{}, api.ErrTime},
		{span(-5, 5, 100), span(7, 9, 100), span(6, 6, 100), api.OK},
		{span(-5, 5, 100), span(8, 9, 101), api.Span{}, api.ErrTime},
		{span(-5, 5, 100), span(7, 9, 101), span(7, 7, 101), api.OK},
		{span(1, 0, 100), span(0, 0, 100), api.Span{}, api.ErrArg},
		{span(0, 0, 100), span(1, 0, 100), api.Span{}, api.ErrArg},
		{span(1, 0, 0), span(-wide, 0, 0), api.Span{}, api.ErrArg},
		{span(-wide, 0, 5), span(-wide, 0, 5), api.Span{}, api.ErrRange},
		{span(-wide, 0, 5), span(-wide+1, 0, 5), api.Span{}, api.ErrRange},
		{span(-wide, -wide, 4), span(9, 9, 5), api.Span{}, api.ErrRange},
		{span(-wide, 0, 5), span(-wide+2, 0, 4), span(-wide, 0, 5), api.OK},
		{span(-wide, 0, 5), span(-wide+1, 0, 4), api.Span{}, api.ErrRange},
	} {
		for _, y := range [][2]api.Span{{x.a, x.b}, {x.b, x.a}} {
			if m, e := bound.Meet(y[0], y[1]); m != x.want || e != x.e {
				t.Errorf("%v: %v %v", y, m, e)
			}
		}
	}
	r := rand.New(rand.NewPCG(8, 2))
	some := func() api.Span {
		if r.IntN(10) == 0 {
			return span([]int{-wide, -wide + 1, 0}[r.IntN(3)], []int{wide, wide - 1, 0, -1}[r.IntN(4)], []int{early, wide, 0, -3000000000}[r.IntN(4)])
		}
		low := r.IntN(200) - 100
		return span(low, low+r.IntN(100), []int{100, 100 + r.IntN(3), r.IntN(3000000)}[r.IntN(3)])
	}
	for range 5000 {
		a, b := some(), some()
		m, e := bound.Meet(a, b)
		if want, we := meet(a, b); m != want || e != we {
			t.Fatalf("%v and %v: %v %v, want %v %v", a, b, m, e, want, we)
		}
		if n, e2 := bound.Meet(b, a); n != m || e2 != e {
			t.Fatalf("%v and %v: another order", a, b)
		}
		if e == api.OK {
			for _, s := range []api.Span{a, b} {
				if g, e := bound.Grow(s, m.At); e == api.OK && (m.Low < g.Low || m.High > g.High) {
					t.Fatalf("%v and %v: %v", a, b, m)
				}
			}
		}
	}
}

// P8.1: H4.
func TestHeard(t *testing.T) {
	if s, e := bound.Heard(api.TimeHint{ASN: 3, Bound: 7, Local: 29990}); s != span(3, 17, 29990) || e != api.OK {
		t.Errorf("%v %v", s, e)
	}
	if s, e := bound.Heard(api.TimeHint{From: -9, Hops: 999, Local: wide}); s != span(-wide, -wide, wide) || e != api.OK {
		t.Errorf("%v %v", s, e)
	}
	if s, e := bound.Heard(api.TimeHint{Bound: 1, Local: wide}); s != span(-wide-1, -wide+1, wide) || e != api.OK {
		t.Errorf("a span that is not valid: %v %v", s, e)
	}
	check := func(h api.TimeHint, ok bool) {
		t.Helper()
		s, e := bound.Heard(h)
		want, we := api.Span{}, api.ErrArg
		if ok {
			want, we = span(h.ASN*10000-h.Bound-h.Local, h.ASN*10000+h.Bound-h.Local, h.Local), api.OK
		}
		if s != want || e != we {
			t.Errorf("%v: %v %v", h, s, e)
		}
	}
	for _, n := range append(append(around(0), around(1000000000)...), math.MaxInt, math.MinInt) {
		check(api.TimeHint{ASN: n}, n >= 0 && n <= 1000000000)
	}
	for _, n := range append(append(around(0), around(2000)...), math.MaxInt, math.MinInt) {
		check(api.TimeHint{Bound: n}, n >= 0 && n <= 2000)
	}
	for _, n := range append(append(around(early), around(wide)...), math.MaxInt, math.MinInt) {
		check(api.TimeHint{Local: n}, n >= early && n <= wide)
	}
}

// world is a clock at two true times, and a span that is true at the first one.
func world(t *testing.T, r *rand.Rand) (c api.Clock, t1, t2, later int, s api.Span) {
	t.Helper()
	c = api.Clock{Offset: r.IntN(2000000001) - 1000000000, Drift: []int{-50, 50, r.IntN(101) - 50}[r.IntN(3)]}
	t1 = []int{0, r.IntN(100000), r.IntN(9000000000000)}[r.IntN(3)]
	t2 = t1 + []int{0, 1, r.IntN(30000), r.IntN(1000000000)}[r.IntN(4)]
	now, _ := clock.Show(c, t1)
	later, _ = clock.Show(c, t2)
	low := t1 - now - r.IntN(3)*r.IntN(50)
	return c, t1, t2, later, span(low, max(low, t1-now+r.IntN(3)*r.IntN(50)), now)
}

// P8.2 (growing).
func TestGrowing(t *testing.T) {
	r := rand.New(rand.NewPCG(8, 3))
	for range 5000 {
		c, t1, t2, later, s := world(t, r)
		if g := grow(t, s, later); t2-later < g.Low || t2-later > g.High {
			t.Fatalf("%v with %v from %d to %d: %v", c, s, t1, t2, g)
		}
	}
}

// P8.3 (meeting).
func TestMeeting(t *testing.T) {
	r := rand.New(rand.NewPCG(8, 4))
	for range 5000 {
		c, t1, t2, later, a := world(t, r)
		b := span(t2-later-r.IntN(2)*r.IntN(50), t2-later+r.IntN(2)*r.IntN(50), later)
		m, e := bound.Meet(a, b)
		if e != api.OK || m.At != later || t2-later < m.Low || t2-later > m.High {
			t.Fatalf("%v: %v at %d and %v at %d: %v %v", c, a, t1, b, t2, m, e)
		}
	}
}

// P8.4 (hearing) and P8.7 (widths).
func TestHearing(t *testing.T) {
	r := rand.New(rand.NewPCG(8, 5))
	for range 3000 {
		h := api.TimeHint{ASN: 1 + r.IntN(900000000), Bound: []int{0, 2000, r.IntN(2001)}[r.IntN(3)]}
		began := h.ASN*10000 + []int{-h.Bound, h.Bound, r.IntN(2*h.Bound+1) - h.Bound}[r.IntN(3)]
		c := api.Clock{Offset: r.IntN(2000000001) - 1000000000, Drift: r.IntN(101) - 50}
		h.Local, _ = clock.Show(c, began)
		s, e := bound.Heard(h)
		if e != api.OK || s.At != h.Local || began-s.At < s.Low || began-s.At > s.High || bound.Width(s) != 2*h.Bound {
			t.Fatalf("%v at %d: %v %v", h, began, s, e)
		}
		elapsed := r.IntN(10000000)
		if g := grow(t, s, s.At+elapsed); bound.Width(g)-bound.Width(s) != 2*added(elapsed) {
			t.Fatalf("%v after %d: %v", s, elapsed, g)
		}
	}
}

// P8.6 (later) and P8.8 (narrower).
func TestLater(t *testing.T) {
	r := rand.New(rand.NewPCG(8, 6))
	some := func() int { return []int{0, 1, r.IntN(60000), r.IntN(100000000)}[r.IntN(4)] }
	for range 5000 {
		s := span(-r.IntN(100), r.IntN(100), r.IntN(1000000))
		now := s.At + some()
		end := now + some()
		half, whole := grow(t, s, now), grow(t, s, end)
		both := grow(t, half, end)
		if both.Low > whole.Low || both.High < whole.High || both.Low < whole.Low-2 || both.High > whole.High+2 {
			t.Fatalf("%v at %d and %d: %v and %v", s, now, end, both, whole)
		}
		if whole.Low > half.Low || whole.High < half.High {
			t.Fatalf("%v at %d: %v, at %d: %v", s, now, half, end, whole)
		}
		inner := span(s.Low+r.IntN(-s.Low+1), s.High-r.IntN(s.High+1), s.At)
		if g := grow(t, inner, end); g.Low < whole.Low || g.High > whole.High {
			t.Fatalf("%v within %v", inner, s)
		}
	}
}
