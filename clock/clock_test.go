package clock_test

import (
	"math"
	"math/big"
	"math/rand/v2"
	"testing"

	"slotmesh/api"
	"slotmesh/clock"
)

const end = 10000000000000

// shows computes what a clock shows by great integers.
func shows(c api.Clock, t int) int {
	term := new(big.Int).Mul(big.NewInt(int64(c.Drift)), big.NewInt(int64(t)))
	term.Div(term, big.NewInt(1000000)) // Euclidean: rounded down for a positive divisor
	return t + c.Offset + int(term.Int64())
}

func some(r *rand.Rand) api.Clock {
	return api.Clock{Offset: []int{0, 1000000000, -1000000000, 7 - r.IntN(100), r.IntN(1000000)}[r.IntN(5)], Drift: []int{0, 1, -1, 50, -50, r.IntN(101) - 50}[r.IntN(6)]}
}

func moment(r *rand.Rand) int {
	return []int{0, 1, end - 1, r.IntN(100), 19990 + r.IntN(20), 1000000*r.IntN(1000) + r.IntN(3), r.IntN(end - 1), end - 1 - r.IntN(50000)}[r.IntN(8)]
}

func show(t *testing.T, c api.Clock, at int) int {
	t.Helper()
	n, e := clock.Show(c, at)
	if e != api.OK {
		t.Fatalf("%v at %d: %v", c, at, e)
	}
	return n
}

// P7.1: G1, and the errors of G2 and G3.
func TestValid(t *testing.T) {
	for _, o := range []int{0, 1000000000, -1000000000, 1000000001, -1000000001, math.MaxInt, math.MinInt} {
		for _, d := range []int{0, 50, -50, 51, -51, math.MaxInt, math.MinInt} {
			c := api.Clock{Offset: o, Drift: d}
			ok := o >= -1000000000 && o <= 1000000000 && d >= -50 && d <= 50
			if clock.Valid(c) != ok {
				t.Errorf("%v: not %v", c, ok)
			}
			want := api.ErrArg
			if ok {
				want = api.OK
			}
			if n, e := clock.Show(c, 0); e != want || n != 0 && !ok {
				t.Errorf("Show of %v: %v", c, e)
			}
			if x, e := clock.When(c, o); e != want || x != (api.Range{}) && !ok {
				t.Errorf("When of %v: %v %v", c, x, e)
			}
		}
	}
	for _, at := range []int{-1, end + 1, math.MaxInt, math.MinInt} {
		if n, e := clock.Show(api.Clock{Offset: 3}, at); e != api.ErrArg || n != 0 {
			t.Errorf("at %d: %d %v", at, n, e)
		}
	}
}

// P7.1: G2.
func TestShow(t *testing.T) {
	for _, x := range []struct {
		c    api.Clock
		t, n int
	}{
		{api.Clock{Offset: 7}, 100, 107},
		{api.Clock{Drift: 50}, 20000, 20001},
		{api.Clock{Drift: 50}, 19999, 19999},
		{api.Clock{Drift: -50}, 0, 0},
		{api.Clock{Drift: -50}, 1, 0},
		{api.Clock{Drift: -50}, 20000, 19999},
		{api.Clock{Drift: -50}, 20001, 19999},
		{api.Clock{Drift: -50}, 20002, 20000},
		{api.Clock{Drift: -1}, 1000000, 999999},
		{api.Clock{Offset: -1000000000, Drift: -50}, end, end - 1000000000 - 500000000},
	} {
		if n := show(t, x.c, x.t); n != x.n {
			t.Errorf("%v at %d shows %d", x.c, x.t, n)
		}
	}
	r := rand.New(rand.NewPCG(7, 1))
	for range 5000 {
		if c, at := some(r), moment(r); show(t, c, at) != shows(c, at) {
			t.Fatalf("%v at %d shows %d", c, at, show(t, c, at))
		}
	}
}

// P7.1: G3.
func TestWhen(t *testing.T) {
	for _, x := range []struct {
		c     api.Clock
		shown int
		want  api.Range
		e     api.Errno
	}{
		{api.Clock{Offset: 7}, 107, api.Range{Low: 100, High: 100}, api.OK},
		{api.Clock{Drift: 50}, 20000, api.Range{}, api.ErrNone},
		{api.Clock{Drift: 50}, 20001, api.Range{Low: 20000, High: 20000}, api.OK},
		{api.Clock{Drift: -50}, 0, api.Range{Low: 0, High: 1}, api.OK},
		{api.Clock{Drift: -50}, 19999, api.Range{Low: 20000, High: 20001}, api.OK},
		{api.Clock{Offset: 7}, 6, api.Range{}, api.ErrNone},
		{api.Clock{Offset: 7}, 7, api.Range{}, api.OK},
		{api.Clock{Offset: 7}, end + 7, api.Range{Low: end, High: end}, api.OK},
		{api.Clock{Offset: 7}, end + 8, api.Range{}, api.ErrNone},
		{api.Clock{}, math.MaxInt, api.Range{}, api.ErrNone},
		{api.Clock{}, math.MinInt, api.Range{}, api.ErrNone},
		{api.Clock{Drift: -50}, end - 500000000, api.Range{Low: end, High: end}, api.OK},
	} {
		if w, e := clock.When(x.c, x.shown); w != x.want || e != x.e {
			t.Errorf("%v shows %d at %v %v", x.c, x.shown, w, e)
		}
	}
	r := rand.New(rand.NewPCG(7, 2))
	for range 3000 { // compared with a search around the time
		c, at := some(r), moment(r)
		shown := shows(c, at) + r.IntN(5) - 2
		low, high := -1, -1
		for t := max(0, at-6); t <= min(end, at+6); t++ {
			if shows(c, t) == shown {
				if low < 0 {
					low = t
				}
				high = t
			}
		}
		want, we := api.Range{Low: low, High: high}, api.OK
		if low < 0 {
			want, we = api.Range{}, api.ErrNone
		}
		if w, e := clock.When(c, shown); w != want || e != we {
			t.Fatalf("%v shows %d at %v %v, not %v", c, shown, w, e, want)
		}
	}
}

// P7.2 (order) and P7.5 (fast and slow).
func TestOrder(t *testing.T) {
	r := rand.New(rand.NewPCG(7, 3))
	for range 5000 {
		c, at := some(r), moment(r)
		step := show(t, c, at+1) - show(t, c, at)
		if step < 0 || step > 2 || c.Drift >= 0 && step == 0 || c.Drift <= 0 && step == 2 {
			t.Fatalf("%v at %d proceeds by %d", c, at, step)
		}
	}
}

// P7.3 (rate), P7.6 (two clocks) and P7.7 (offset).
func TestRate(t *testing.T) {
	r := rand.New(rand.NewPCG(7, 4))
	up := func(n int) int { return (n + 999999) / 1000000 }
	abs := func(n int) int { return max(n, -n) }
	for range 5000 {
		a, b, t1, t2 := some(r), some(r), moment(r), moment(r)
		t1, t2 = min(t1, t2), max(t1, t2)
		d := t2 - t1
		da, db := show(t, a, t2)-show(t, a, t1), show(t, b, t2)-show(t, b, t1)
		if abs(da-d) > up(50*d)+1 || abs(da-db) > up(100*d)+2 {
			t.Fatalf("%v and %v from %d to %d", a, b, t1, t2)
		}
		more := a
		more.Offset += r.IntN(1000000)
		if more.Offset > 1000000000 {
			more.Offset = 1000000000
		}
		k := more.Offset - a.Offset
		if show(t, more, t1) != show(t, a, t1)+k {
			t.Fatalf("%v, and %d more, at %d", a, k, t1)
		}
		shown := show(t, a, t1) + r.IntN(3) - 1
		w1, e1 := clock.When(a, shown)
		if w2, e2 := clock.When(more, shown+k); w1 != w2 || e1 != e2 {
			t.Fatalf("%v, and %d more, show %d", a, k, shown)
		}
	}
}

// P7.4 (inverse).
func TestInverse(t *testing.T) {
	r := rand.New(rand.NewPCG(7, 5))
	for range 3000 {
		c, at := some(r), moment(r)
		shown := show(t, c, at)
		w, e := clock.When(c, shown)
		if e != api.OK || at < w.Low || at > w.High || w.High-w.Low > 1 || w.Low < 0 || w.High > end {
			t.Fatalf("%v at %d: %v %v", c, at, w, e)
		}
		for k := w.Low; k <= w.High; k++ {
			if show(t, c, k) != shown {
				t.Fatalf("%v at %d", c, k)
			}
		}
		if w.Low > 0 && show(t, c, w.Low-1) == shown || w.High < end && show(t, c, w.High+1) == shown {
			t.Fatalf("%v around %v", c, w)
		}
	}
}
