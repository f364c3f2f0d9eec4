package solve_test

import (
	"bytes"
	"fmt"
	"math"
	"math/bits"
	"math/rand/v2"
	"testing"

	"slotmesh/api"
	"slotmesh/solve"
)

func same(a, b any) bool { return fmt.Sprint(a) == fmt.Sprint(b) }

// fill is a block of equal bytes.
func fill(x byte) []byte { return bytes.Repeat([]byte{x}, 16) }

func row(mask int, x byte) api.Row { return api.Row{Mask: mask, Data: fill(x)} }

func add(t *testing.T, l []api.Row, x api.Row) []api.Row {
	t.Helper()
	y, _, e := solve.Add(l, x)
	if e != api.OK {
		t.Fatalf("%v and %v: %v", l, x, e)
	}
	return y
}

// world is what the 16 blocks truly are.
type world [16][16]byte

func random(r *rand.Rand) *world {
	var w world
	for i := range w {
		for k := range w[i] {
			w[i][k] = byte(r.Uint32())
		}
	}
	return &w
}

// says is the equation of a set of blocks.
func (w *world) says(mask int) api.Row {
	data := make([]byte, 16)
	for i := range w {
		if mask>>i&1 == 1 {
			for k := range data {
				data[k] ^= w[i][k]
			}
		}
	}
	return api.Row{Mask: mask, Data: data}
}

// masks are few bits, or many.
func masks(r *rand.Rand) int {
	if r.IntN(2) == 0 {
		return 1 + r.IntN(65535)
	}
	return 1<<r.IntN(16) | 1<<r.IntN(16)
}

// spanned reports whether a set is a sum of others, by trying all of their sums.
func spanned(sets map[int]bool, mask int) bool { return mask == 0 || sets[mask] }

// P33.1: AG1.
func TestValid(t *testing.T) {
	for _, x := range []struct {
		l  []api.Row
		ok bool
	}{
		{nil, true}, {[]api.Row{row(1, 0)}, true}, {[]api.Row{row(65535, 7)}, true}, {[]api.Row{row(5, 1), row(3, 2)}, true}, {[]api.Row{row(4, 1), row(2, 2), row(1, 3)}, true},
		{[]api.Row{row(0, 0)}, false}, {[]api.Row{row(65536, 0)}, false}, {[]api.Row{row(-1, 0)}, false}, {[]api.Row{row(math.MinInt, 0)}, false}, {[]api.Row{row(math.MaxInt, 0)}, false},
		{[]api.Row{{Mask: 1}}, false}, {[]api.Row{{Mask: 1, Data: make([]byte, 15)}}, false}, {[]api.Row{{Mask: 1, Data: make([]byte, 17)}}, false},
		{[]api.Row{row(3, 1), row(5, 2)}, false}, {[]api.Row{row(2, 1), row(2, 1)}, false}, {[]api.Row{row(5, 1), row(4, 1)}, false}, {[]api.Row{row(6, 1), row(3, 2)}, false}, {[]api.Row{row(7, 1), row(1, 2)}, false},
		{[]api.Row{row(4, 1), row(0, 1)}, false}, {[]api.Row{row(8, 1), row(5, 2), row(3, 2)}, true}, {[]api.Row{row(9, 1), row(4, 2), row(3, 3), row(1, 3)}, false}, {[]api.Row{row(8+2, 1), row(4, 2), row(2+1, 3)}, false},
	} {
		if solve.Valid(x.l) != x.ok {
			t.Errorf("%v: not %v", x.l, x.ok)
		}
		if x.ok {
			continue
		}
		l, fresh, e := solve.Add(x.l, row(1, 1))
		b, ok := solve.Solved(x.l, 0)
		s, known := solve.Sum(x.l, 0)
		if e != api.ErrArg || fresh || len(l)+len(b)+len(s) > 0 || ok || known {
			t.Errorf("%v: %v %v %v", x.l, e, ok, known)
		}
	}
}

// The example of the chapter.
func TestExample(t *testing.T) {
	a, b, c := byte(1), byte(20), byte(77)
	l := add(t, add(t, nil, row(3, a^b)), row(6, b^c))
	if !same(l, []api.Row{row(5, a^c), row(3, a^b)}) {
		t.Fatalf("%v", l)
	}
	if s, ok := solve.Sum(l, 5); !ok || !bytes.Equal(s, fill(a^c)) {
		t.Errorf("%v %v", s, ok)
	}
	for i := range 3 {
		if x, ok := solve.Solved(l, i); ok || len(x) > 0 {
			t.Errorf("the block %d: %v", i, x)
		}
	}
	l = add(t, l, row(2, b))
	if !same(l, []api.Row{row(4, c), row(2, b), row(1, a)}) {
		t.Fatalf("%v", l)
	}
	if x, fresh, e := solve.Add(l, row(5, a^c)); !same(x, l) || fresh || e != api.OK {
		t.Errorf("%v %v %v", x, fresh, e)
	}
	if x, fresh, e := solve.Add(l, row(5, a)); len(x) > 0 || fresh || e != api.ErrSum {
		t.Errorf("%v %v %v", x, fresh, e)
	}
}

// P33.1: AG2 to AG4; P33.2 (validity), P33.3 (truth), P33.5 (what follows), P33.6 (sums) and P33.7 (enough).
func TestSolving(t *testing.T) {
	r := rand.New(rand.NewPCG(33, 1))
	for range 60 {
		w := random(r)
		var l []api.Row
		sets := map[int]bool{}
		for range 24 {
			x := w.says(masks(r))
			if len(l) > 8 {
				x = w.says(x.Mask & 2047)
				if x.Mask == 0 {
					continue
				}
			}
			before := fmt.Sprint(l, x)
			y, fresh, e := solve.Add(l, x)
			if e != api.OK || fresh == spanned(sets, x.Mask) || !solve.Valid(y) || fresh != (len(y) == len(l)+1) || !fresh && !same(y, l) {
				t.Fatalf("%v and %v: %v %v %v", l, x, y, fresh, e)
			}
			if fresh {
				more := map[int]bool{x.Mask: true}
				for m := range sets {
					more[m], more[m^x.Mask] = true, true
				}
				sets = more
			}
			bad := w.says(x.Mask)
			bad.Data[r.IntN(16)] ^= 1 << r.IntN(8)
			if z, fresh, e := solve.Add(y, bad); e != api.ErrSum || fresh || len(z) > 0 {
				t.Fatalf("%v and %v: %v %v", y, bad, fresh, e)
			}
			if s, ok := solve.Sum(y, x.Mask); !ok || !bytes.Equal(s, x.Data) {
				t.Fatalf("%v: the sum of %d: %v %v", y, x.Mask, s, ok)
			}
			for range 20 {
				m, n := masks(r), masks(r)
				s, ok := solve.Sum(y, m)
				if ok != spanned(sets, m) || ok && !bytes.Equal(s, w.says(m).Data) || !ok && len(s) > 0 {
					t.Fatalf("%v: the sum of %d: %v %v", y, m, s, ok)
				}
				if _, ok2 := solve.Sum(y, n); ok && ok2 {
					if s, ok := solve.Sum(y, m^n); !ok || !bytes.Equal(s, w.says(m^n).Data) {
						t.Fatalf("%v: the sum of %d and %d", y, m, n)
					}
				}
			}
			for i := range 16 {
				b, ok := solve.Solved(y, i)
				if ok != spanned(sets, 1<<i) || ok && !bytes.Equal(b, w[i][:]) || !ok && len(b) > 0 {
					t.Fatalf("%v: the block %d: %v %v", y, i, b, ok)
				}
				if ok {
					b[0]++
				}
			}
			if fmt.Sprint(l, x) != before {
				t.Fatal("an argument has changed")
			}
			z, _, _ := solve.Add(l, x)
			for _, row := range z {
				row.Data[0]++
			}
			if fmt.Sprint(l, x) != before {
				t.Fatal("memory is shared")
			}
			l = y
		}
	}
	w := random(r)
	var l []api.Row
	for n := 0; len(l) < 16 && n < 200; n++ {
		l = add(t, l, w.says(1+r.IntN(65535)))
	}
	for i := range 16 {
		if b, ok := solve.Solved(l, i); !ok || !bytes.Equal(b, w[i][:]) || l[15-i].Mask != 1<<i {
			t.Errorf("16 rows: the block %d: %v", i, ok)
		}
	}
	if s, ok := solve.Sum(l, 65535); !ok || !bytes.Equal(s, w.says(65535).Data) {
		t.Error("the sum of all")
	}
}

// P33.1: what is not valid.
func TestErrors(t *testing.T) {
	good := []api.Row{row(2, 1)}
	for _, x := range []api.Row{{}, row(0, 0), row(65536, 1), row(-1, 1), row(math.MinInt, 1), row(math.MaxInt, 1), {Mask: 2}, {Mask: 2, Data: make([]byte, 15)}, {Mask: 2, Data: make([]byte, 17)}} {
		if l, fresh, e := solve.Add(good, x); e != api.ErrArg || fresh || len(l) > 0 {
			t.Errorf("%v: %v %v", x, fresh, e)
		}
	}
	for _, n := range []int{-1, 0, 2, 15, 16, 63, 64, math.MaxInt, math.MinInt} {
		if b, ok := solve.Solved(good, n); ok || len(b) > 0 {
			t.Errorf("the block %d: %v", n, b)
		}
	}
	for _, n := range []int{-1, 65536, 65538, math.MaxInt, math.MinInt, 1, 3} {
		if s, ok := solve.Sum(good, n); ok || len(s) > 0 {
			t.Errorf("the sum of %d: %v", n, s)
		}
	}
	if s, ok := solve.Sum(good, 0); !ok || !bytes.Equal(s, fill(0)) {
		t.Errorf("the sum of nothing: %v %v", s, ok)
	}
	if b, ok := solve.Solved([]api.Row{row(1<<15, 9)}, 15); !ok || !bytes.Equal(b, fill(9)) {
		t.Errorf("the last block: %v %v", b, ok)
	}
}

// P33.4 (order).
func TestOrder(t *testing.T) {
	r := rand.New(rand.NewPCG(33, 2))
	for range 300 {
		w := random(r)
		var list []api.Row
		for range r.IntN(14) {
			list = append(list, w.says(masks(r)))
		}
		var a, b []api.Row
		for _, x := range list {
			a = add(t, a, x)
		}
		r.Shuffle(len(list), func(i, k int) { list[i], list[k] = list[k], list[i] })
		for _, x := range list {
			b = add(t, b, x)
		}
		if !same(a, b) {
			t.Fatalf("%v: %v and %v", list, a, b)
		}
		last := 17
		for _, x := range a {
			n := bits.Len(uint(x.Mask))
			if n >= last {
				t.Fatalf("%v", a)
			}
			last = n
		}
	}
}
