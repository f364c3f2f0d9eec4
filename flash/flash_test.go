package flash_test

import (
	"bytes"
	"fmt"
	"math"
	"math/rand/v2"
	"slices"
	"testing"

	"slotmesh/api"
	"slotmesh/flash"
)

func of(sector int, b ...byte) api.Flash { return api.Flash{Sector: sector, Bytes: b} }

func equal(a, b api.Flash) bool { return a.Sector == b.Sector && bytes.Equal(a.Bytes, b.Bytes) }

func junk(r *rand.Rand, n int) []byte {
	b := make([]byte, n)
	for i := range b {
		b[i] = byte(r.Uint32())
	}
	return b
}

func random(r *rand.Rand) api.Flash {
	s := 1 + r.IntN(6)
	return of(s, junk(r, s*(1+r.IntN(5)))...)
}

func last(l []api.Flash) api.Flash { return l[len(l)-1] }

func program(t *testing.T, f api.Flash, at int, data ...byte) []api.Flash {
	t.Helper()
	l, e := flash.Program(f, at, data)
	if e != api.OK {
		t.Fatalf("%v at %d: %v", f, at, e)
	}
	return l
}

func erase(t *testing.T, f api.Flash, sector int) []api.Flash {
	t.Helper()
	l, e := flash.Erase(f, sector)
	if e != api.OK {
		t.Fatalf("%v, sector %d: %v", f, sector, e)
	}
	return l
}

// P23.1: W1.
func TestNew(t *testing.T) {
	for _, x := range []struct {
		sector, size int
		ok           bool
	}{
		{1, 1, true}, {1, 16384, true}, {1, 16385, false}, {1024, 1024, true}, {1024, 16384, true}, {1025, 1025, false}, {0, 0, false}, {0, 5, false}, {5, 0, false}, {5, 4, false}, {5, 5, true}, {5, 9, false}, {5, 10, true},
		{-1, 5, false}, {math.MinInt, 4, false}, {math.MaxInt, 4, false}, {1000, 17000, false}, {1023, 16368, true},
	} {
		if flash.Valid(api.Flash{Sector: x.sector, Bytes: make([]byte, x.size)}) != x.ok {
			t.Errorf("%v: not %v", x, x.ok)
		}
	}
	for _, x := range []struct {
		sector, sectors int
		ok              bool
	}{
		{2, 2, true}, {1, 16384, true}, {1, 16385, false}, {1024, 16, true}, {1024, 17, false}, {1025, 1, false}, {0, 1, false}, {1, 0, false}, {-1, 1, false}, {1, -1, false}, {-2, -2, false}, {1000, 16, true}, {1000, 17, false},
		{math.MaxInt, math.MaxInt, false}, {1024, math.MaxInt, false}, {math.MinInt, 2, false}, {1 << 32, 1 << 32, false}, {512, 1 << 55, false}, {2, 1 << 62, false}, {4, 1 << 62, false},
	} {
		f, e := flash.New(x.sector, x.sectors)
		if x.ok && (e != api.OK || f.Sector != x.sector || !bytes.Equal(f.Bytes, bytes.Repeat([]byte{255}, x.sector*x.sectors)) || !flash.Valid(f)) {
			t.Errorf("%v: %v", x, e)
		}
		if !x.ok && (e != api.ErrArg || f.Sector != 0 || len(f.Bytes) > 0) {
			t.Errorf("%v: %v", x, e)
		}
	}
}

// The examples of the chapter.
func TestExamples(t *testing.T) {
	f, _ := flash.New(2, 2)
	l := program(t, f, 1, 240, 15)
	if fmt.Sprint(l) != "[{2 [255 255 255 255]} {2 [255 240 255 255]} {2 [255 240 15 255]}]" {
		t.Errorf("%v", l)
	}
	l = program(t, last(l), 1, 51)
	if fmt.Sprint(last(l)) != "{2 [255 48 15 255]}" {
		t.Errorf("%v", l)
	}
	l = erase(t, last(l), 0)
	if fmt.Sprint(l) != "[{2 [255 48 15 255]} {2 [255 48 15 255]} {2 [255 255 15 255]}]" {
		t.Errorf("%v", l)
	}
}

// P23.1: what is not valid.
func TestErrors(t *testing.T) {
	f := of(2, 1, 2, 3, 4)
	for _, x := range []struct {
		f    api.Flash
		at   int
		size int
		e    api.Errno
	}{
		{f, 3, 2, api.ErrRange}, {f, 3, 1, api.OK}, {f, 4, 0, api.OK}, {f, 5, 0, api.ErrRange}, {f, 0, 4, api.OK}, {f, 0, 5, api.ErrRange}, {f, -1, 2, api.ErrArg}, {f, -1, 9, api.ErrArg}, {f, math.MinInt, 1, api.ErrArg}, {f, math.MaxInt, 1, api.ErrRange}, {f, math.MaxInt, 0, api.ErrRange},
		{of(3, 1, 2, 3, 4), 0, 1, api.ErrArg}, {of(3, 1, 2, 3, 4), 9, 9, api.ErrArg}, {api.Flash{}, 0, 0, api.ErrArg},
	} {
		l, e := flash.Program(x.f, x.at, make([]byte, x.size))
		if e != x.e || (e == api.OK) != (len(l) == x.size+1) || e != api.OK && len(l) > 0 {
			t.Errorf("%v at %d, %d bytes: %v", x.f, x.at, x.size, e)
		}
	}
	for _, x := range []struct {
		f      api.Flash
		sector int
		e      api.Errno
	}{{f, 0, api.OK}, {f, 1, api.OK}, {f, 2, api.ErrArg}, {f, -1, api.ErrArg}, {f, math.MaxInt, api.ErrArg}, {f, math.MinInt, api.ErrArg}, {of(3, 1, 2, 3, 4), 0, api.ErrArg}, {api.Flash{}, 0, api.ErrArg}} {
		if l, e := flash.Erase(x.f, x.sector); e != x.e || (e == api.OK) != (len(l) == 3) {
			t.Errorf("%v, sector %d: %v", x.f, x.sector, e)
		}
	}
}

// P23.1; P23.2 (steps) and P23.3 (clearing).
func TestSteps(t *testing.T) {
	r := rand.New(rand.NewPCG(23, 1))
	for range 1000 {
		f := random(r)
		before := slices.Clone(f.Bytes)
		at := r.IntN(len(f.Bytes) + 1)
		data := junk(r, r.IntN(len(f.Bytes)-at+1))
		sector := r.IntN(len(f.Bytes) / f.Sector)
		p, x := program(t, f, at, data...), erase(t, f, sector)
		if len(p) != len(data)+1 || len(x) != f.Sector+1 {
			t.Fatalf("%d and %d memories", len(p), len(x))
		}
		want := of(f.Sector, slices.Clone(before)...)
		for i, m := range p {
			if i > 0 {
				want.Bytes[at+i-1] &= data[i-1]
			}
			if !equal(m, want) || !flash.Valid(m) {
				t.Fatalf("%v at %d with %v, step %d: %v", f, at, data, i, m)
			}
		}
		want = of(f.Sector, slices.Clone(before)...)
		for i, m := range x {
			if i > 0 {
				want.Bytes[sector*f.Sector+i-1] = 255
			}
			if !equal(m, want) {
				t.Fatalf("%v, sector %d, step %d: %v", f, sector, i, m)
			}
		}
		for _, m := range append(p, x...) { // no memory is shared
			for i := range m.Bytes {
				m.Bytes[i] = 7
			}
			if !bytes.Equal(f.Bytes, before) {
				t.Fatal("the memory has changed")
			}
		}
		q := program(t, f, at, data...)
		for i := range q {
			copies := slices.Clone(q[(i+1)%len(q)].Bytes)
			for k := range q[i].Bytes {
				q[i].Bytes[k] ^= 1
			}
			if len(q) > 1 && !bytes.Equal(copies, q[(i+1)%len(q)].Bytes) {
				t.Fatal("two memories are one")
			}
		}
	}
}

// P23.4 (erased bytes) and P23.5 (again).
func TestAgain(t *testing.T) {
	r := rand.New(rand.NewPCG(23, 2))
	for range 500 {
		f := random(r)
		at := r.IntN(len(f.Bytes))
		data := junk(r, r.IntN(len(f.Bytes)-at+1))
		clean, _ := flash.New(f.Sector, len(f.Bytes)/f.Sector)
		if m := last(program(t, clean, at, data...)); !bytes.Equal(m.Bytes[at:at+len(data)], data) {
			t.Fatalf("%v at %d: %v", data, at, m)
		}
		l := program(t, f, at, data...)
		for _, m := range l {
			if n := last(program(t, m, at, data...)); !equal(n, last(l)) {
				t.Fatalf("%v at %d, again: %v", data, at, n)
			}
		}
	}
}

// P23.6 (order) and P23.8 (parts).
func TestOrder(t *testing.T) {
	r := rand.New(rand.NewPCG(23, 3))
	for range 500 {
		f := random(r)
		a, b := r.IntN(len(f.Bytes)), r.IntN(len(f.Bytes))
		x, y := junk(r, r.IntN(len(f.Bytes)-a+1)), junk(r, r.IntN(len(f.Bytes)-b+1))
		one := last(program(t, last(program(t, f, a, x...)), b, y...))
		if two := last(program(t, last(program(t, f, b, y...)), a, x...)); !equal(one, two) {
			t.Fatalf("%v: %v at %d and %v at %d", f, x, a, y, b)
		}
		cut := r.IntN(len(x) + 1)
		first := program(t, f, a, x[:cut]...)
		parts := append(first, program(t, last(first), a+cut, x[cut:]...)[1:]...)
		if !slices.EqualFunc(parts, program(t, f, a, x...), equal) {
			t.Fatalf("%v: %v at %d in two parts", f, x, a)
		}
	}
}

// P23.7 (erasing).
func TestErasing(t *testing.T) {
	r := rand.New(rand.NewPCG(23, 4))
	for range 500 {
		f := random(r)
		sector := r.IntN(len(f.Bytes) / f.Sector)
		l := erase(t, f, sector)
		begin := sector * f.Sector
		if !bytes.Equal(last(l).Bytes[begin:begin+f.Sector], bytes.Repeat([]byte{255}, f.Sector)) {
			t.Fatalf("%v, sector %d: %v", f, sector, last(l))
		}
		for _, m := range l {
			if n := last(erase(t, m, sector)); !equal(n, last(l)) {
				t.Fatalf("%v, sector %d, again: %v", f, sector, n)
			}
		}
	}
}
