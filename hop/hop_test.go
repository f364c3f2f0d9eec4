package hop_test

import (
	"math"
	"testing"

	"slotmesh/api"
	"slotmesh/hop"
)

var table = []int{0, 5, 10, 15, 4, 9, 14, 3, 8, 13, 2, 7, 12, 1, 6, 11}

var slots = []int{0, 1, 2, 3, 15, 16, 17, 31, 32, 33, 999, 1000, 999999999, 1000000000}

func channel(t *testing.T, asn, offset int) int {
	t.Helper()
	c, e := hop.Channel(asn, offset)
	if e != api.OK {
		t.Fatalf("Channel(%d, %d): %v", asn, offset, e)
	}
	return c
}

// P11.1: K1 to K3.
func TestHop(t *testing.T) {
	for _, x := range [][3]int{{0, 0, 0}, {1, 0, 5}, {17, 3, 4}} {
		if c := channel(t, x[0], x[1]); c != x[2] {
			t.Errorf("Channel of %v: %d", x, c)
		}
	}
	for _, x := range [][3]int{{1, 5, 0}, {2, 0, 14}} {
		if o, e := hop.Offset(x[0], x[1]); o != x[2] || e != api.OK {
			t.Errorf("Offset of %v: %d %v", x, o, e)
		}
	}
	for _, x := range [][4]int{{1, 0, 5, 0}, {1, 0, 0, 15}, {0, 0, 1, 13}} {
		if w, e := hop.Wait(x[0], x[1], x[2]); w != x[3] || e != api.OK {
			t.Errorf("Wait of %v: %d %v", x, w, e)
		}
	}
	for _, asn := range slots {
		for o := range 16 {
			if c := channel(t, asn, o); c != table[(asn+o)%16] {
				t.Errorf("Channel(%d, %d) = %d", asn, o, c)
			}
		}
	}
}

// P11.1: what is not valid.
func TestErrors(t *testing.T) {
	wrong := []int{-1, math.MinInt, math.MaxInt, -16}
	for _, n := range append(wrong, 1000000001) {
		_, e1 := hop.Channel(n, 0)
		_, e2 := hop.Offset(n, 0)
		_, e3 := hop.Wait(n, 0, 0)
		if e1 != api.ErrArg || e2 != api.ErrArg || e3 != api.ErrArg {
			t.Errorf("the slot %d: %v %v %v", n, e1, e2, e3)
		}
	}
	for _, n := range append(wrong, 16, 17) {
		x1, e1 := hop.Channel(3, n)
		x2, e2 := hop.Offset(3, n)
		x3, e3 := hop.Wait(3, n, 0)
		x4, e4 := hop.Wait(3, 0, n)
		if e1 != api.ErrArg || e2 != api.ErrArg || e3 != api.ErrArg || e4 != api.ErrArg || x1+x2+x3+x4 != 0 {
			t.Errorf("the number %d: %v %v %v %v", n, e1, e2, e3, e4)
		}
	}
}

// P11.2 (one channel each) and P11.3 (inverse).
func TestOneChannelEach(t *testing.T) {
	for _, asn := range slots {
		seen := map[int]bool{}
		for o := range 16 {
			c := channel(t, asn, o)
			if c < 0 || c > 15 {
				t.Errorf("the channel %d", c)
			}
			seen[c] = true
			if back, e := hop.Offset(asn, c); back != o || e != api.OK {
				t.Errorf("Offset(%d, %d) = %d %v", asn, c, back, e)
			}
		}
		if len(seen) != 16 {
			t.Errorf("%d channels in %d", len(seen), asn)
		}
	}
}

// P11.4 (all channels) and P11.6 (shifting).
func TestAllChannels(t *testing.T) {
	for asn := range 40 {
		for o := range 16 {
			seen := map[int]bool{}
			for k := range 16 {
				seen[channel(t, asn+k, o)] = true
			}
			if len(seen) != 16 || channel(t, asn+16, o) != channel(t, asn, o) {
				t.Errorf("the offset %d from %d on: %d channels", o, asn, len(seen))
			}
			if channel(t, asn+1, o) != channel(t, asn, (o+1)%16) {
				t.Errorf("the offset %d after %d", o, asn)
			}
			for p := range o {
				if channel(t, asn, p) == channel(t, asn, o) {
					t.Errorf("the offsets %d and %d meet in %d", p, o, asn)
				}
			}
		}
	}
}

// P11.5 (waiting).
func TestWaiting(t *testing.T) {
	for _, asn := range slots[:len(slots)-2] {
		for o := range 16 {
			for c := range 16 {
				w, e := hop.Wait(asn, o, c)
				if e != api.OK || w < 0 || w > 15 || channel(t, asn+w, o) != c {
					t.Fatalf("Wait(%d, %d, %d) = %d %v", asn, o, c, w, e)
				}
				for k := range w {
					if channel(t, asn+k, o) == c {
						t.Fatalf("Wait(%d, %d, %d) = %d, but %d do", asn, o, c, w, k)
					}
				}
			}
		}
	}
	for c := range 16 { // beyond the last slot
		w, e := hop.Wait(1000000000, 3, c)
		if e != api.OK || table[(1000000000+3+w)%16] != c || w > 15 {
			t.Errorf("Wait(MaxASN, 3, %d) = %d %v", c, w, e)
		}
	}
}
