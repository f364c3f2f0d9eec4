package fountain_test

import (
	"bytes"
	"fmt"
	"math"
	"math/rand/v2"
	"testing"

	"slotmesh/api"
	"slotmesh/fountain"
	"slotmesh/random"
	"slotmesh/solve"
)

func same(a, b any) bool { return fmt.Sprint(a) == fmt.Sprint(b) }

func junk(r *rand.Rand, n int) []byte {
	b := make([]byte, n)
	for i := range b {
		b[i] = byte(r.Uint32())
	}
	return b
}

func encode(t *testing.T, page []byte, number, seed int) api.Block {
	t.Helper()
	b, e := fountain.Encode(page, number, seed)
	if e != api.OK {
		t.Fatalf("Encode %d %d: %v", number, seed, e)
	}
	return b
}

func receive(t *testing.T, l []api.Row, b api.Block) ([]api.Row, bool) {
	t.Helper()
	x, fresh, e := fountain.Receive(l, b)
	if e != api.OK {
		t.Fatalf("%v and %v: %v", l, b, e)
	}
	return x, fresh
}

var wild = []int{-1, 1000000001, math.MaxInt, math.MinInt}

// P34.1: AH1.
func TestSet(t *testing.T) {
	for i := range 16 {
		if s := fountain.Set(i); s != 1<<i {
			t.Errorf("Set(%d) = %d", i, s)
		}
	}
	for _, n := range []int{16, 17, 100, 999999999, 1000000000} {
		if s := fountain.Set(n); s != random.Mask(uint64(n), 16) || s < 1 || s > 65535 {
			t.Errorf("Set(%d) = %d", n, s)
		}
	}
	for _, n := range wild {
		if s := fountain.Set(n); s != 0 {
			t.Errorf("Set(%d) = %d", n, s)
		}
	}
}

// P34.1: AH2.
func TestEncode(t *testing.T) {
	var page []byte
	for i := range 16 {
		page = append(page, bytes.Repeat([]byte{byte(i)}, 16)...)
	}
	if b := encode(t, page, 9, 3); !same(b, api.Block{Page: 9, Seed: 3, Data: bytes.Repeat([]byte{3}, 16)}) {
		t.Errorf("%v", b)
	}
	r := rand.New(rand.NewPCG(34, 1))
	for range 500 {
		page := junk(r, 256)
		if r.IntN(2) == 0 {
			copy(page[32:], make([]byte, 100))
		}
		seed, number := []int{r.IntN(16), r.IntN(100), r.IntN(1000000001)}[r.IntN(3)], r.IntN(16)
		want := make([]byte, 16)
		for i := range 256 {
			if fountain.Set(seed)>>(i/16)&1 == 1 {
				want[i%16] ^= page[i]
			}
		}
		if b := encode(t, page, number, seed); b.Page != number || b.Seed != seed || !bytes.Equal(b.Data, want) || len(b.Proof) > 0 {
			t.Fatalf("seed %d: %v", seed, b)
		}
	}
	for _, n := range []int{0, 255, 257, 16} {
		if b, e := fountain.Encode(make([]byte, n), 0, 0); e != api.ErrArg || !same(b, api.Block{}) {
			t.Errorf("%d bytes: %v %v", n, b, e)
		}
	}
	for _, n := range append(wild, 16) {
		if b, e := fountain.Encode(page, n, 0); e != api.ErrArg || !same(b, api.Block{}) {
			t.Errorf("the number %d: %v %v", n, b, e)
		}
	}
	for _, n := range wild {
		if b, e := fountain.Encode(page, 0, n); e != api.ErrArg || !same(b, api.Block{}) {
			t.Errorf("the seed %d: %v %v", n, b, e)
		}
	}
	encode(t, page, 15, 1000000000)
	encode(t, page, 0, 0).Data[0] = 99
	if page[0] != 0 {
		t.Error("memory is shared")
	}
}

// P34.1: AH3.
func TestReceive(t *testing.T) {
	r := rand.New(rand.NewPCG(34, 2))
	page := junk(r, 256)
	good := encode(t, page, 0, 50)
	var l []api.Row
	for i := range 40 {
		b := encode(t, page, i%16, r.IntN(100))
		b.Proof = []uint64{1, 2, 3, 4, 5, 6, 7}
		x, fresh := receive(t, l, b)
		want, wf, _ := solve.Add(l, api.Row{Mask: fountain.Set(b.Seed), Data: b.Data})
		if !same(x, want) || fresh != wf {
			t.Fatalf("%v and %v: %v %v", l, b, x, fresh)
		}
		if b.Data[3] ^= 4; !fresh {
			if x, fresh, e := fountain.Receive(l, b); e != api.ErrSum || fresh || len(x) > 0 {
				t.Fatalf("a wrong block: %v", e)
			}
		}
		l = x
	}
	refused := func(l []api.Row, b api.Block) {
		t.Helper()
		if x, fresh, e := fountain.Receive(l, b); e != api.ErrArg || fresh || len(x) > 0 {
			t.Errorf("%v: %v %v", b, fresh, e)
		}
	}
	for _, n := range append(wild, 16) {
		b := good
		b.Page = n
		refused(nil, b)
	}
	for _, n := range wild {
		b := good
		b.Seed = n
		refused(nil, b)
	}
	for _, n := range []int{0, 15, 17} {
		b := good
		b.Data = make([]byte, n)
		refused(nil, b)
	}
	refused([]api.Row{{Mask: 1}}, good)
	refused([]api.Row{{Mask: 1, Data: make([]byte, 16)}, {Mask: 2, Data: make([]byte, 16)}}, good)
}

// P34.1: AH4; P34.2 (truth), P34.3 (enough) and P34.5 (plain blocks).
func TestPage(t *testing.T) {
	r := rand.New(rand.NewPCG(34, 3))
	for round := range 60 {
		page := junk(r, 256)
		var l []api.Row
		count, known := 0, 0
		seeds := r.Perm(16)
		for i := range 200 {
			seed := r.IntN(2000)
			if round%2 == 0 && i < 16 {
				seed = seeds[i]
			}
			x, fresh := receive(t, l, encode(t, page, 3, seed))
			set := fountain.Set(seed)
			if fresh {
				count++
			} else if set&^known != 0 {
				t.Fatalf("a block is not new, though nothing is known of %d", set&^known)
			}
			known |= set
			l = x
			p, ok := fountain.Page(l)
			if ok != (count == 16) || ok && !bytes.Equal(p, page) || !ok && len(p) > 0 {
				t.Fatalf("%d blocks: %v", count, ok)
			}
			if ok {
				p[0]++
				if q, _ := fountain.Page(l); !bytes.Equal(q, page) {
					t.Fatal("memory is shared")
				}
			}
			if round%2 == 0 && (i == 15) != (ok && i < 16) && i < 16 {
				t.Fatalf("%d plain blocks: %v", i+1, ok)
			}
		}
		if count != 16 {
			t.Fatalf("%d new blocks", count)
		}
		for i := range l {
			bad := append([]api.Row{}, l...)
			bad[i].Mask = 0
			if p, ok := fountain.Page(bad); ok || len(p) > 0 {
				t.Fatal("rows that are not valid")
			}
		}
		if _, ok := fountain.Page(append(append([]api.Row{}, l...), l[15])); ok {
			t.Fatal("17 rows")
		}
	}
	if _, ok := fountain.Page(nil); ok {
		t.Error("no rows")
	}
}

// P34.4 (order).
func TestOrder(t *testing.T) {
	r := rand.New(rand.NewPCG(34, 4))
	for range 200 {
		page := junk(r, 256)
		var list []api.Block
		for range 1 + r.IntN(18) {
			list = append(list, encode(t, page, 0, r.IntN(60)))
		}
		var a, b []api.Row
		for _, x := range list {
			a, _ = receive(t, a, x)
		}
		list = append(list, list[r.IntN(len(list))])
		r.Shuffle(len(list), func(i, k int) { list[i], list[k] = list[k], list[i] })
		for _, x := range list {
			b, _ = receive(t, b, x)
		}
		if !same(a, b) {
			t.Fatalf("%v and %v", a, b)
		}
	}
}

// P34.6 (sums) and P34.7 (another page).
func TestTwoPages(t *testing.T) {
	r := rand.New(rand.NewPCG(34, 5))
	for range 100 {
		p, q := junk(r, 256), junk(r, 256)
		if r.IntN(2) == 0 {
			q = bytes.Clone(p)
			q[r.IntN(256)] ^= 8
		}
		sum := make([]byte, 256)
		for i := range sum {
			sum[i] = p[i] ^ q[i]
		}
		var l []api.Row
		for i := range 16 {
			l, _ = receive(t, l, encode(t, p, 0, i))
		}
		for range 30 {
			seed := r.IntN(1000)
			a, b, c := encode(t, p, 0, seed), encode(t, q, 0, seed), encode(t, sum, 0, seed)
			for i := range c.Data {
				if c.Data[i] != a.Data[i]^b.Data[i] {
					t.Fatalf("seed %d", seed)
				}
			}
			_, fresh, e := fountain.Receive(l, b)
			if equal := bytes.Equal(a.Data, b.Data); fresh || equal != (e == api.OK) || !equal && e != api.ErrSum {
				t.Fatalf("seed %d: %v", seed, e)
			}
		}
	}
}
