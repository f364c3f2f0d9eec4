package plane_test

import (
	"fmt"
	"math"
	"math/rand/v2"
	"testing"

	"slotmesh/api"
	"slotmesh/plane"
)

func at(x, y int) api.Place { return api.Place{X: x, Y: y} }

func somewhere(r *rand.Rand, n int) api.Place { return at(r.IntN(n+1), r.IntN(n+1)) }

var wild = []int{-1, 10001, math.MaxInt, math.MinInt, 1 << 32}

// P16.1: P1.
func TestNear(t *testing.T) {
	for _, x := range []struct {
		a, b   api.Place
		radius int
		want   bool
	}{
		{at(0, 0), at(3, 4), 5, true}, {at(0, 0), at(3, 4), 4, false}, {at(3, 4), at(0, 0), 5, true}, {at(5, 5), at(5, 5), 0, true}, {at(5, 5), at(5, 6), 0, false},
		{at(0, 10000), at(10000, 0), 14143, true}, {at(0, 10000), at(10000, 0), 14142, false}, {at(0, 0), at(10000, 10000), 20000, true}, {at(0, 0), at(10000, 10000), 20001, false},
		{at(1, 1), at(1, 1), -1, false}, {at(1, 1), at(1, 1), 20000, true}, {at(1, 1), at(1, 1), math.MaxInt, false}, {at(1, 1), at(1, 1), math.MinInt, false},
	} {
		if plane.Near(x.a, x.b, x.radius) != x.want {
			t.Errorf("%v", x)
		}
	}
	for _, n := range wild {
		for _, p := range []api.Place{at(n, 0), at(0, n), at(n, n)} {
			if plane.Near(p, p, 20000) || plane.Near(p, at(0, 0), 20000) || plane.Near(at(0, 0), p, 20000) {
				t.Errorf("%v is near", p)
			}
		}
	}
	r := rand.New(rand.NewPCG(16, 1))
	for range 3000 {
		a, b, radius := somewhere(r, 30), somewhere(r, 30), r.IntN(45)
		if want := math.Hypot(float64(a.X-b.X), float64(a.Y-b.Y)) <= float64(radius)+1e-9; plane.Near(a, b, radius) != want {
			t.Fatalf("%v and %v, radius %d: not %v", a, b, radius, want)
		}
	}
}

// P16.1: P2; P16.2 (symmetry) and P16.6 (others).
func TestHears(t *testing.T) {
	h, e := plane.Hears([]api.Place{at(0, 0), at(100, 0), at(250, 0)}, 150)
	if e != api.OK || fmt.Sprint(h) != "[[false true false] [true false true] [false true false]]" {
		t.Errorf("%v %v", h, e)
	}
	if h, e := plane.Hears(nil, 0); len(h) != 0 || e != api.OK {
		t.Errorf("nobody: %v %v", h, e)
	}
	r := rand.New(rand.NewPCG(16, 2))
	for range 300 {
		places := make([]api.Place, r.IntN(61))
		for i := range places {
			places[i] = somewhere(r, 20)
		}
		radius := r.IntN(20)
		h, e := plane.Hears(places, radius)
		if e != api.OK || len(h) != len(places) {
			t.Fatalf("%v: %v", places, e)
		}
		for i := range places {
			for k := range places {
				if len(h[i]) != len(places) || h[i][k] != (i != k && plane.Near(places[i], places[k], radius)) || h[i][k] != h[k][i] {
					t.Fatalf("%v, radius %d: %d and %d", places, radius, i, k)
				}
			}
		}
	}
	for _, n := range wild {
		for _, bad := range []api.Place{at(n, 0), at(0, n)} {
			for _, l := range [][]api.Place{{bad}, {bad, at(0, 0)}, {at(0, 0), bad}, {at(0, 0), at(1, 1), bad}} {
				if h, e := plane.Hears(l, 5); e != api.ErrArg || len(h) > 0 {
					t.Errorf("%v: %v", l, e)
				}
			}
		}
	}
	for _, radius := range []int{-1, 20001, math.MaxInt, math.MinInt} {
		for _, l := range [][]api.Place{nil, {at(0, 0)}} {
			if h, e := plane.Hears(l, radius); e != api.ErrArg || len(h) > 0 {
				t.Errorf("radius %d: %v", radius, e)
			}
		}
	}
	if _, e := plane.Hears(make([]api.Place, 60), 20000); e != api.OK {
		t.Errorf("60 places: %v", e)
	}
	if h, e := plane.Hears(make([]api.Place, 61), 0); e != api.ErrArg || len(h) > 0 {
		t.Errorf("61 places: %v", e)
	}
}

// P16.1: P3; P16.7 (jammers).
func TestJammed(t *testing.T) {
	j := api.Jam{Place: at(0, 0), Radius: 10, Channel: 3, Until: 20}
	for _, x := range []struct {
		p            api.Place
		channel, asn int
		want         bool
	}{
		{at(6, 8), 3, 19, true}, {at(6, 8), 3, 20, false}, {at(6, 8), 3, 21, false}, {at(6, 8), 2, 19, false}, {at(6, 8), 4, 19, false}, {at(6, 9), 3, 19, false}, {at(0, 0), 3, 0, true},
		{at(6, 8), 3, -5, true}, {at(6, 8), 3, math.MinInt, true}, {at(6, 8), 3, math.MaxInt, false}, {at(-6, 8), 3, 19, false},
	} {
		if plane.Jammed([]api.Jam{j}, x.p, x.channel, x.asn) != x.want {
			t.Errorf("%v", x)
		}
		if plane.Jammed([]api.Jam{{}, {Place: at(9000, 9000), Radius: 1, Channel: 3, Until: 100}, j}, x.p, x.channel, x.asn) != x.want {
			t.Errorf("%v: the last jammer", x)
		}
		if plane.Jammed(nil, x.p, x.channel, x.asn) {
			t.Errorf("%v: no jammer", x)
		}
	}
	for _, bad := range []api.Jam{{Place: at(-1, 0), Radius: 10, Channel: 3, Until: 20}, {Radius: -1, Channel: 3, Until: 20}, {Radius: 20001, Channel: 3, Until: 20}, {Place: at(0, 10001), Radius: 20000, Channel: 3, Until: 20}} {
		if plane.Jammed([]api.Jam{bad}, at(0, 0), 3, 5) {
			t.Errorf("%v disturbs", bad)
		}
	}
	if !plane.Jammed([]api.Jam{{Channel: -77, Until: 1, Radius: 0}}, at(0, 0), -77, 0) {
		t.Error("any channel")
	}
	r := rand.New(rand.NewPCG(16, 3))
	some := func() api.Jam {
		return api.Jam{Place: somewhere(r, 10), Radius: r.IntN(8), Channel: r.IntN(3), Until: r.IntN(10)}
	}
	for range 2000 {
		jams := []api.Jam{some(), some()}
		p, c, asn := somewhere(r, 10), r.IntN(3), r.IntN(10)
		want := false
		for _, j := range jams {
			want = want || j.Channel == c && asn < j.Until && plane.Near(j.Place, p, j.Radius)
		}
		if plane.Jammed(jams, p, c, asn) != want {
			t.Fatalf("%v, %v on %d in %d: not %v", jams, p, c, asn, want)
		}
		if want && !plane.Jammed(append(jams, some()), p, c, asn) {
			t.Fatalf("%v: a further jammer helps", jams)
		}
	}
}

// P16.2 (symmetry), P16.3 (radius) and P16.4 (triangle).
func TestRadius(t *testing.T) {
	r := rand.New(rand.NewPCG(16, 4))
	for range 5000 {
		size := []int{3, 50, 10000}[r.IntN(3)]
		a, b, c := somewhere(r, size), somewhere(r, size), somewhere(r, size)
		x, y := r.IntN(size+1), r.IntN(size+1)
		near := plane.Near(a, b, x)
		switch {
		case near != plane.Near(b, a, x), !plane.Near(a, a, x), near && !plane.Near(a, b, x+y), plane.Near(a, b, 0) != (a == b), !plane.Near(a, b, 15000):
			t.Fatalf("%v and %v, radius %d", a, b, x)
		case near && plane.Near(b, c, y) && !plane.Near(a, c, x+y):
			t.Fatalf("%v, %v and %v, radius %d and %d", a, b, c, x, y)
		}
	}
}

// P16.5 (moving).
func TestMoving(t *testing.T) {
	r := rand.New(rand.NewPCG(16, 5))
	for range 300 {
		var places, moved, turned []api.Place
		dx, dy := r.IntN(9900), r.IntN(9900)
		for range r.IntN(10) {
			p := somewhere(r, 100)
			places = append(places, p)
			moved = append(moved, at(p.X+dx, p.Y+dy))
			turned = append(turned, at(p.Y, p.X))
		}
		radius := r.IntN(100)
		a, _ := plane.Hears(places, radius)
		b, _ := plane.Hears(moved, radius)
		c, _ := plane.Hears(turned, radius)
		if fmt.Sprint(a) != fmt.Sprint(b) || fmt.Sprint(a) != fmt.Sprint(c) {
			t.Fatalf("%v, moved by %d and %d", places, dx, dy)
		}
	}
}
