package keyring_test

import (
	"math"
	"math/rand/v2"
	"testing"

	"slotmesh/api"
	"slotmesh/keyring"
)

func ring(first, next int) api.Ring { return api.Ring{First: first, Next: next} }

var wild = []int{-1, 1000000001, math.MaxInt, math.MinInt}

// rings are valid or not.
var rings = []struct {
	r  api.Ring
	ok bool
}{
	{ring(0, 0), true}, {ring(0, 1), true}, {ring(0, 500002), true}, {ring(500000, 500001), true}, {ring(500000, 500002), true}, {ring(3, 7), true},
	{ring(0, 500003), false}, {ring(500001, 500002), false}, {ring(1, 1), false}, {ring(2, 1), false}, {ring(1, 0), false}, {ring(-1, 0), false}, {ring(-1, 5), false}, {ring(0, -1), false}, {ring(math.MinInt, math.MaxInt), false}, {ring(math.MaxInt, math.MinInt), false}, {ring(3, math.MaxInt), false},
}

// P32.1: AF1; P32.2 (epochs).
func TestEpoch(t *testing.T) {
	for _, x := range [][2]int{{0, 0}, {1999, 0}, {2000, 1}, {3999, 1}, {1000000000, 500000}, {999999999, 499999}} {
		if n, e := keyring.Epoch(x[0]); n != x[1] || e != api.OK {
			t.Errorf("Epoch(%d) = %d %v", x[0], n, e)
		}
	}
	for _, asn := range wild {
		if n, e := keyring.Epoch(asn); n != 0 || e != api.ErrArg {
			t.Errorf("Epoch(%d) = %d %v", asn, n, e)
		}
	}
	for e := range 300 {
		first, _ := keyring.Epoch(2000 * e)
		last, _ := keyring.Epoch(2000*e + 1999)
		next, _ := keyring.Epoch(2000*e + 2000)
		if first != e || last != e || next != e+1 {
			t.Errorf("the epoch %d: %d, %d, %d", e, first, last, next)
		}
	}
}

// P32.1: AF2.
func TestKnows(t *testing.T) {
	for _, x := range rings {
		for _, e := range []int{-1, 0, 1, 2, 3, 6, 7, 500000, 500001, 500002, math.MaxInt, math.MinInt} {
			if keyring.Knows(x.r, e) != (x.ok && e >= x.r.First && e < x.r.Next) {
				t.Errorf("%v and %d", x.r, e)
			}
		}
	}
}

// P32.1: AF3; P32.3 (root).
func TestRoot(t *testing.T) {
	for _, asn := range []int{0, 1999, 2000, 2500, 1000000000, 123456789} {
		e := asn / 2000
		r := keyring.Root(asn)
		if r != ring(e, e+2) {
			t.Errorf("in %d: %v", asn, r)
		}
		for k := e - 3; k < e+5; k++ {
			if keyring.Knows(r, k) != (k == e || k == e+1) {
				t.Errorf("in %d: the epoch %d", asn, k)
			}
		}
	}
	for _, asn := range wild {
		if r := keyring.Root(asn); r != (api.Ring{}) {
			t.Errorf("in %d: %v", asn, r)
		}
	}
}

func some(r *rand.Rand) api.Ring {
	first := r.IntN(6)
	return []api.Ring{{}, ring(first, first+1), ring(first, first+2), ring(first, first+1+r.IntN(5)), ring(r.IntN(8)-1, r.IntN(8)-1)}[r.IntN(5)]
}

func valid(r api.Ring) bool {
	return r == api.Ring{} || r.First >= 0 && r.First <= 500000 && r.Next > r.First && r.Next <= 500002
}

// P32.1: AF4; P32.4 (learning) and P32.8 (far epochs).
func TestLearn(t *testing.T) {
	for _, x := range []struct{ r, told, want api.Ring }{
		{ring(1, 2), ring(1, 3), ring(1, 3)}, {ring(1, 2), ring(2, 3), ring(1, 2)}, {ring(1, 2), ring(0, 3), ring(0, 3)}, {ring(1, 2), ring(1, 4), ring(1, 2)}, {ring(0, 9), ring(1, 3), ring(0, 9)},
		{api.Ring{}, ring(1, 3), api.Ring{}}, {ring(2, 3), ring(1, 3), ring(2, 3)}, {ring(1, 2), ring(-1, 3), ring(1, 2)}, {ring(-1, 3), ring(1, 3), ring(-1, 3)}, {ring(0, 2), ring(1, 3), ring(0, 3)},
	} {
		if y := keyring.Learn(x.r, x.told, 2500); y != x.want {
			t.Errorf("%v from %v: %v", x.r, x.told, y)
		}
	}
	for _, asn := range wild {
		if y := keyring.Learn(ring(0, 1), ring(0, 2), asn); y != ring(0, 1) {
			t.Errorf("in %d: %v", asn, y)
		}
	}
	r := rand.New(rand.NewPCG(32, 1))
	learnt := 0
	for range 20000 {
		a, b, asn := some(r), some(r), r.IntN(14000)
		e := asn / 2000
		want := a
		if valid(a) && valid(b) && a.First <= e && e < a.Next && b.First <= e && e < b.Next && b.Next <= e+2 {
			want = ring(min(a.First, b.First), max(a.Next, b.Next))
		}
		c := keyring.Learn(a, b, asn)
		if c != want {
			t.Fatalf("%v from %v in %d: %v", a, b, asn, c)
		}
		if c != a {
			learnt++
		}
		for k := -1; k < 12; k++ {
			had, told, has := keyring.Knows(a, k), keyring.Knows(b, k), keyring.Knows(c, k)
			if has && !had && !told || had && !has || c != a && told && !has || has && !had && k > e+1 {
				t.Fatalf("%v from %v in %d: %v at %d", a, b, asn, c, k)
			}
		}
	}
	if learnt < 150 {
		t.Errorf("only %d have learnt something", learnt)
	}
}

// P32.5 (order).
func TestOrder(t *testing.T) {
	r := rand.New(rand.NewPCG(32, 2))
	for range 3000 {
		e := 3 + r.IntN(5)
		near := func() api.Ring { return ring(e-r.IntN(4), e+1+r.IntN(2)) }
		a, b, c, asn := near(), near(), near(), 2000*e+r.IntN(2000)
		if keyring.Learn(a, b, asn) != keyring.Learn(b, a, asn) {
			t.Fatalf("%v and %v in %d", a, b, asn)
		}
		x := keyring.Learn(keyring.Learn(a, b, asn), c, asn)
		if y := keyring.Learn(keyring.Learn(a, c, asn), b, asn); x != y || keyring.Learn(x, b, asn) != x {
			t.Fatalf("%v from %v and %v in %d: %v and %v", a, b, c, asn, x, y)
		}
	}
}

// P32.1: AF5; P32.6 (aging).
func TestAge(t *testing.T) {
	for _, x := range []struct {
		r, want api.Ring
		asn     int
	}{
		{ring(0, 3), ring(1, 3), 2500}, {ring(0, 1), api.Ring{}, 2500}, {ring(0, 2), ring(1, 2), 2500}, {ring(1, 3), ring(1, 3), 2500}, {ring(2, 3), ring(2, 3), 2500}, {api.Ring{}, api.Ring{}, 2500}, {ring(-1, 3), ring(-1, 3), 2500}, {ring(0, 500003), ring(0, 500003), 2500},
		{ring(0, 500002), ring(500000, 500002), 1000000000}, {ring(1, 0), ring(1, 0), 4500}, {ring(1, 1), ring(1, 1), 4500},
	} {
		if y := keyring.Age(x.r, x.asn); y != x.want {
			t.Errorf("%v in %d: %v", x.r, x.asn, y)
		}
	}
	for _, asn := range wild {
		if y := keyring.Age(ring(0, 1), asn); y != ring(0, 1) {
			t.Errorf("in %d: %v", asn, y)
		}
	}
	r := rand.New(rand.NewPCG(32, 3))
	for range 5000 {
		a, asn, other := some(r), r.IntN(16000), r.IntN(16000)
		b := keyring.Age(a, asn)
		for k := -1; k < 12; k++ {
			if keyring.Knows(b, k) != (keyring.Knows(a, k) && k >= asn/2000) {
				t.Fatalf("%v in %d: %v at %d", a, asn, b, k)
			}
		}
		if !valid(a) && b != a || keyring.Age(b, asn) != b || keyring.Age(b, min(asn, other)) != b {
			t.Fatalf("%v in %d: %v", a, asn, b)
		}
	}
}

// P32.7 (in step).
func TestInStep(t *testing.T) {
	r := rand.New(rand.NewPCG(32, 4))
	for range 100 {
		own := keyring.Root(0)
		heard := -1
		for asn := 0; asn < 40000; asn += 1 + r.IntN(100) {
			own = keyring.Age(own, asn)
			e := asn / 2000
			if !keyring.Knows(own, e) {
				t.Fatalf("in %d: %v", asn, own)
			}
			if heard < e && (r.IntN(10) == 0 || asn%2000 > 1800) {
				own = keyring.Learn(own, ring(e-r.IntN(2)*min(e, 1), e+2), asn)
				heard = e
			}
		}
	}
}
