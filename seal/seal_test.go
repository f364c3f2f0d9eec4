package seal_test

import (
	"fmt"
	"math"
	"math/rand/v2"
	"testing"

	"slotmesh/api"
	"slotmesh/seal"
)

func same(a, b any) bool { return fmt.Sprint(a) == fmt.Sprint(b) }

func ring(first, next int) api.Ring { return api.Ring{First: first, Next: next} }

var wild = []int{-1, 1000000001, math.MaxInt, math.MinInt}

// P28.1: AB1 and AB2; P28.5 (keys).
func TestKeys(t *testing.T) {
	for _, x := range [][2]int{{0, 1}, {1999, 1}, {2000, 2}, {3999, 2}, {4000, 3}, {1000000000, 500001}, {999999999, 500000}} {
		if k, e := seal.Key(x[0]); k != x[1] || e != api.OK {
			t.Errorf("Key(%d) = %d %v", x[0], k, e)
		}
	}
	for _, asn := range wild {
		if k, e := seal.Key(asn); k != 0 || e != api.ErrArg {
			t.Errorf("Key(%d) = %d %v", asn, k, e)
		}
	}
	for _, id := range []int{0, 3, 59} {
		if k, e := seal.Own(id); k != 1000000+id || e != api.OK {
			t.Errorf("Own(%d) = %d %v", id, k, e)
		}
	}
	for _, id := range []int{-1, 60, math.MaxInt, math.MinInt} {
		if k, e := seal.Own(id); k != 0 || e != api.ErrArg {
			t.Errorf("Own(%d) = %d %v", id, k, e)
		}
	}
	r := rand.New(rand.NewPCG(28, 1))
	for range 2000 {
		a := r.IntN(1000000001)
		b := min(1000000000, a+r.IntN(3000))
		k, _ := seal.Key(a)
		l, _ := seal.Key(b)
		if own, _ := seal.Own(r.IntN(60)); (k == l) != (a/2000 == b/2000) || k == own || k == 0 || own == 0 {
			t.Fatalf("the keys of %d and %d: %d and %d", a, b, k, l)
		}
	}
}

// The examples of the chapter.
func TestExamples(t *testing.T) {
	f := api.Frame{Kind: 2, From: 3, To: 4, ASN: 2000, Body: []byte{1, 2}}
	g, e := seal.Seal(f, ring(1, 2))
	want := f
	want.Key = 2
	if e != api.OK || !same(g, want) {
		t.Errorf("%v %v", g, e)
	}
	if e := seal.Open(g, ring(1, 2), 2000); e != api.OK {
		t.Errorf("%v", e)
	}
	if e := seal.Open(g, ring(1, 2), 2001); e != api.ErrOld {
		t.Errorf("%v", e)
	}
	if g, e := seal.Seal(f, ring(0, 1)); e != api.ErrKey || !same(g, api.Frame{}) {
		t.Errorf("%v %v", g, e)
	}
	if e := seal.Open(g, ring(0, 1), 2000); e != api.ErrKey {
		t.Errorf("%v", e)
	}
}

// P28.1: AB3.
func TestSeal(t *testing.T) {
	for _, asn := range wild {
		if g, e := seal.Seal(api.Frame{ASN: asn, Key: 5, Kind: 1}, ring(math.MinInt, math.MaxInt)); e != api.ErrArg || !same(g, api.Frame{}) {
			t.Errorf("the slot %d: %v %v", asn, g, e)
		}
	}
	r := rand.New(rand.NewPCG(28, 2))
	for range 3000 {
		f := api.Frame{Kind: r.IntN(9), From: r.IntN(99) - 5, To: r.IntN(99) - 5, ASN: []int{0, 1000000000, r.IntN(10000), r.IntN(10000)}[r.IntN(4)], Key: r.IntN(5), Body: []byte{byte(r.Uint32()), 7}}
		k := ring(r.IntN(7)-1, r.IntN(7)-1)
		g, e := seal.Seal(f, k)
		epoch := f.ASN / 2000
		if k.First <= epoch && epoch < k.Next {
			want := f
			want.Key = epoch + 1
			if e != api.OK || !same(g, want) {
				t.Fatalf("%v with %v: %v %v", f, k, g, e)
			}
			g.Body[1] = 99
			if f.Body[1] != 7 {
				t.Fatal("the body is shared")
			}
		} else if e != api.ErrKey || !same(g, api.Frame{}) {
			t.Fatalf("%v with %v: %v %v", f, k, g, e)
		}
	}
}

// P28.1: AB4, in the order of its errors.
func TestOpen(t *testing.T) {
	all := ring(0, 600000)
	for _, asn := range wild {
		if e := seal.Open(api.Frame{ASN: asn, Key: 1}, all, asn); e != api.ErrArg {
			t.Errorf("the slot %d: %v", asn, e)
		}
		if e := seal.Open(api.Frame{ASN: asn, Key: 1}, all, 5); e != api.ErrOld {
			t.Errorf("a frame of the slot %d: %v", asn, e)
		}
	}
	r := rand.New(rand.NewPCG(28, 3))
	for range 8000 {
		asn := []int{0, 1999, 2000, 1000000000, r.IntN(8000)}[r.IntN(5)]
		f := api.Frame{ASN: asn, Key: asn/2000 + []int{1, 1, 1, 0, 2}[r.IntN(5)]}
		if r.IntN(4) == 0 {
			f.ASN += []int{1, -1, 2000}[r.IntN(3)]
		}
		k := []api.Ring{all, ring(asn/2000, asn/2000+1), ring(0, asn/2000), ring(asn/2000+1, 600000), {}}[r.IntN(5)]
		want := api.OK
		switch {
		case f.ASN != asn:
			want = api.ErrOld
		case f.Key != asn/2000+1 || asn/2000 < k.First || asn/2000 >= k.Next:
			want = api.ErrKey
		}
		if e := seal.Open(f, k, asn); e != want {
			t.Fatalf("%v with %v in %d: %v, want %v", f, k, asn, e, want)
		}
	}
}

// P28.2 (sealing), P28.3 (replays), P28.4 (strangers) and P28.6 (more keys).
func TestSealing(t *testing.T) {
	r := rand.New(rand.NewPCG(28, 4))
	for range 3000 {
		f := api.Frame{Kind: 1, ASN: r.IntN(10000), Body: []byte{3}}
		k := ring(r.IntN(5), 1+r.IntN(6))
		more := ring(k.First-r.IntN(2), k.Next+r.IntN(2))
		g, e := seal.Seal(f, k)
		if e != api.OK {
			continue
		}
		if e := seal.Open(g, k, f.ASN); e != api.OK {
			t.Fatalf("%v with %v: %v", g, k, e)
		}
		if h, e := seal.Seal(f, more); e != api.OK || !same(g, h) || seal.Open(g, more, f.ASN) != api.OK {
			t.Fatalf("%v with %v: %v", g, more, e)
		}
		for _, d := range []int{1, -1, 2000, -2000, 16, r.IntN(9000)} {
			if d != 0 && seal.Open(g, ring(0, 600000), f.ASN+d) == api.OK {
				t.Fatalf("%v is opened %d later", g, d)
			}
		}
		if _, e := seal.Seal(f, api.Ring{}); e != api.ErrKey || seal.Open(g, api.Ring{}, f.ASN) != api.ErrKey {
			t.Fatal("without keys")
		}
		own, _ := seal.Own(r.IntN(60))
		for _, key := range []int{0, own, -1} {
			g.Key = key
			if seal.Open(g, ring(0, 600000), f.ASN) != api.ErrKey {
				t.Fatalf("the key %d", key)
			}
		}
	}
}
