package ledger_test

import (
	"math"
	"math/rand/v2"
	"testing"

	"slotmesh/api"
	"slotmesh/ledger"
)

const most = 1000000000

func of(left, spent int) api.Ledger { return api.Ledger{Left: left, Spent: spent} }

// ledgers are valid or not.
var ledgers = []struct {
	l  api.Ledger
	ok bool
}{
	{of(0, 0), true}, {of(100, 5), true}, {of(most, 0), true}, {of(0, most), true}, {of(most-5, 5), true}, {of(500000000, 500000000), true},
	{of(-1, 5), false}, {of(5, -1), false}, {of(most, 1), false}, {of(1, most), false}, {of(most+1, 0), false}, {of(0, most+1), false}, {of(most+1, -1), false},
	{of(math.MaxInt, math.MaxInt), false}, {of(math.MinInt, 0), false}, {of(math.MaxInt, 1), false}, {of(1, math.MaxInt), false}, {of(0, math.MinInt), false}, {of(math.MinInt, math.MaxInt), false},
}

// P18.1: R1; P18.6 (kinds).
func TestCost(t *testing.T) {
	for _, x := range [][2]int{{api.RadioSleep, 1}, {api.RadioListen, 40}, {api.RadioSend, 60}, {3, 0}, {-1, 0}, {math.MaxInt, 0}, {math.MinInt, 0}} {
		if c := ledger.Cost(x[0]); c != x[1] {
			t.Errorf("Cost(%d) = %d", x[0], c)
		}
	}
}

// P18.1: R2; P18.5 (refusal).
func TestSpend(t *testing.T) {
	for _, x := range ledgers {
		for _, cost := range []int{0, 1, 60, 100, 101, 500000000, most, most + 1, -1, math.MaxInt, math.MinInt} {
			want, we := x.l, api.OK
			switch {
			case !x.ok || cost < 0:
				we = api.ErrArg
			case cost > x.l.Left:
				we = api.ErrPower
			default:
				want = of(x.l.Left-cost, x.l.Spent+cost)
			}
			if l, e := ledger.Spend(x.l, cost); l != want || e != we {
				t.Errorf("%v spends %d: %v %v", x.l, cost, l, e)
			}
		}
	}
	l, e := ledger.Spend(of(40, 65), 60)
	if l != of(40, 65) || e != api.ErrPower {
		t.Errorf("%v %v", l, e)
	}
	if l, e := ledger.Spend(l, 40); l != of(0, 105) || e != api.OK {
		t.Errorf("a lesser one: %v %v", l, e)
	}
}

// P18.1: R3; P18.3 (lasting).
func TestLasts(t *testing.T) {
	if n := ledger.Lasts(of(100, 5), api.RadioListen); n != 2 {
		t.Errorf("%d", n)
	}
	for _, x := range ledgers {
		for _, do := range []int{0, 1, 2, 3, -1, math.MaxInt, math.MinInt} {
			want := 0
			if c := ledger.Cost(do); x.ok && c > 0 {
				want = x.l.Left / c
			}
			if n := ledger.Lasts(x.l, do); n != want {
				t.Errorf("%v lasts for %d slots of the kind %d", x.l, n, do)
			}
		}
	}
	r := rand.New(rand.NewPCG(18, 1))
	for range 300 {
		start := of(r.IntN(2000), r.IntN(1000))
		for do := range 3 {
			l, n := start, ledger.Lasts(start, do)
			for range n {
				var e api.Errno
				if l, e = ledger.Spend(l, ledger.Cost(do)); e != api.OK {
					t.Fatalf("%v does not last for %d slots of the kind %d", start, n, do)
				}
			}
			if _, e := ledger.Spend(l, ledger.Cost(do)); e != api.ErrPower {
				t.Fatalf("%v lasts for more than %d slots of the kind %d", start, n, do)
			}
		}
	}
}

// P18.2 (nothing is lost) and P18.4 (steps).
func TestNothingIsLost(t *testing.T) {
	r := rand.New(rand.NewPCG(18, 2))
	for range 500 {
		start := of(r.IntN(1000), r.IntN(1000))
		l, sum := start, 0
		for range 40 {
			cost := r.IntN(80) - 5
			next, e := ledger.Spend(l, cost)
			if e == api.OK {
				sum += cost
			} else if next != l {
				t.Fatalf("%v spends %d: %v %v", l, cost, next, e)
			}
			l = next
		}
		if l.Left < 0 || l.Left+l.Spent != start.Left+start.Spent || l.Spent != start.Spent+sum {
			t.Fatalf("%v becomes %v", start, l)
		}
		a, b := r.IntN(800), r.IntN(800)
		one, e1 := ledger.Spend(start, a)
		two, e2 := ledger.Spend(one, b)
		both, e := ledger.Spend(start, a+b)
		if (e1 == api.OK && e2 == api.OK) != (e == api.OK) || e == api.OK && two != both {
			t.Fatalf("%v spends %d and %d: %v, and %v", start, a, b, two, both)
		}
	}
}
