package tree_test

import (
	"bytes"
	"math"
	"math/rand/v2"
	"slices"
	"testing"

	"slotmesh/api"
	"slotmesh/digest"
	"slotmesh/tree"
)

func leaf(page []byte) uint64 { return digest.Sum(append([]byte{0}, page...)) }

func some(r *rand.Rand, n int) [][]byte {
	var l [][]byte
	for range n {
		b := make([]byte, []int{0, 1, 255, 256, r.IntN(257)}[r.IntN(5)])
		for i := range b {
			b[i] = byte(r.Uint32())
		}
		l = append(l, b)
	}
	return l
}

func root(t *testing.T, pages [][]byte) uint64 {
	t.Helper()
	x, e := tree.Root(pages)
	if e != api.OK {
		t.Fatalf("%d pages: %v", len(pages), e)
	}
	return x
}

func proof(t *testing.T, pages [][]byte, i int) []uint64 {
	t.Helper()
	x, e := tree.Proof(pages, i)
	if e != api.OK {
		t.Fatalf("%d of %d pages: %v", i, len(pages), e)
	}
	return x
}

// model returns the root and the proof of a page, level by level.
func model(pages [][]byte, i int) (uint64, []uint64) {
	var level []uint64
	for _, p := range pages {
		level = append(level, leaf(p))
	}
	var proof []uint64
	for len(level) > 1 {
		if k := i ^ 1; k < len(level) {
			proof = append(proof, level[k])
		}
		var next []uint64
		for k := 0; k < len(level); k += 2 {
			if k+1 < len(level) {
				next = append(next, digest.Pair(level[k], level[k+1]))
			} else {
				next = append(next, level[k])
			}
		}
		level, i = next, i/2
	}
	return level[0], proof
}

// P35.1: AI1 and AI2, by the examples and for all numbers of pages; P35.2 (proofs) and P35.6 (length).
func TestProofs(t *testing.T) {
	pages := [][]byte{{1}, {2, 3}, nil}
	a, b, c := leaf(pages[0]), leaf(pages[1]), leaf(pages[2])
	if root(t, pages[:1]) != a || root(t, pages) != digest.Pair(digest.Pair(a, b), c) {
		t.Error("roots")
	}
	for i, want := range [][]uint64{{b, c}, {a, c}, {digest.Pair(a, b)}} {
		if p := proof(t, pages, i); !slices.Equal(p, want) {
			t.Errorf("the page %d: %v", i, p)
		}
	}
	r := rand.New(rand.NewPCG(35, 1))
	for n := 1; n <= 16; n++ {
		for range 20 {
			pages := some(r, n)
			x := root(t, pages)
			for i := range n {
				want, wp := model(pages, i)
				p := proof(t, pages, i)
				if x != want || !slices.Equal(p, wp) || !tree.Check(x, n, i, pages[i], p) {
					t.Fatalf("%d of %d pages: %v", i, n, p)
				}
				if full := map[int]int{1: 0, 2: 1, 4: 2, 8: 3, 16: 4}; len(p) > 4 || n&(n-1) == 0 && len(p) != full[n] {
					t.Fatalf("%d of %d pages: %v", i, n, p)
				}
			}
		}
	}
}

// P35.1: what is not valid.
func TestErrors(t *testing.T) {
	for _, pages := range [][][]byte{nil, make([][]byte, 17), {make([]byte, 257)}, {nil, make([]byte, 257)}, {make([]byte, 257), nil}} {
		x, e := tree.Root(pages)
		p, e2 := tree.Proof(pages, 0)
		if x != 0 || e != api.ErrArg || len(p) > 0 || e2 != api.ErrArg {
			t.Errorf("%d pages: %v %v", len(pages), e, e2)
		}
	}
	pages := make([][]byte, 16)
	pages[3] = make([]byte, 256)
	for _, i := range []int{-1, 16, math.MaxInt, math.MinInt} {
		if p, e := tree.Proof(pages, i); e != api.ErrArg || len(p) > 0 {
			t.Errorf("the page %d: %v", i, e)
		}
		if tree.Check(root(t, pages), 16, i, nil, proof(t, pages, 0)) {
			t.Errorf("the page %d is accepted", i)
		}
	}
	x := leaf([]byte{7})
	if !tree.Check(x, 1, 0, []byte{7}, nil) {
		t.Error("one page")
	}
	for _, n := range []int{0, -1, 17, 2, 3, math.MaxInt, math.MinInt} {
		if tree.Check(x, n, 0, []byte{7}, nil) {
			t.Errorf("%d pages", n)
		}
	}
	for _, i := range []int{-1, 1, math.MaxInt} {
		if tree.Check(x, 1, i, []byte{7}, nil) {
			t.Errorf("the page %d of one", i)
		}
	}
	long := make([]byte, 257)
	if tree.Check(leaf(long), 1, 0, long, nil) {
		t.Error("a page of 257 bytes")
	}
	seventeen := make([]uint64, 5)
	y := leaf(nil)
	for range 5 {
		y = digest.Pair(y, 0)
	}
	if tree.Check(y, 17, 0, nil, seventeen) || tree.Check(y, 32, 0, nil, seventeen) {
		t.Error("more than 16 pages")
	}
}

// P35.3 (other pages) and P35.4 (other proofs).
func TestOthers(t *testing.T) {
	r := rand.New(rand.NewPCG(35, 2))
	for range 300 {
		n := 1 + r.IntN(16)
		pages := some(r, n)
		x, i := root(t, pages), r.IntN(n)
		p := proof(t, pages, i)
		if len(pages[i]) > 0 {
			other := bytes.Clone(pages[i])
			other[r.IntN(len(other))] ^= byte(1 + r.IntN(255))
			if tree.Check(x, n, i, other, p) {
				t.Fatalf("%d of %d pages: another page is accepted", i, n)
			}
			changed := slices.Clone(pages)
			changed[i] = other
			if root(t, changed) == x {
				t.Fatalf("%d of %d pages: the root is the same", i, n)
			}
		}
		for k := range p {
			other := slices.Clone(p)
			other[k] ^= 1 << r.IntN(64)
			if tree.Check(x, n, i, pages[i], other) || tree.Check(x, n, i, pages[i], slices.Delete(slices.Clone(p), k, k+1)) {
				t.Fatalf("%d of %d pages: another proof is accepted", i, n)
			}
		}
		if tree.Check(x, n, i, pages[i], append(slices.Clone(p), 0)) || tree.Check(x, n, i, pages[i], append(slices.Clone(p), x)) || tree.Check(x^1, n, i, pages[i], p) {
			t.Fatalf("%d of %d pages: a longer proof, or another root", i, n)
		}
		for k := range n {
			if k != i && !bytes.Equal(pages[i], pages[k]) && tree.Check(x, n, k, pages[i], p) {
				t.Fatalf("the page %d of %d is accepted as %d", i, n, k)
			}
		}
	}
}

// P35.5 (one page): the way from a leaf up can be undone, so only one leaf leads to a root.
func TestOnePage(t *testing.T) {
	r := rand.New(rand.NewPCG(35, 3))
	for range 300 {
		n := 1 + r.IntN(16)
		pages := some(r, n)
		x, i := root(t, pages), r.IntN(n)
		p := proof(t, pages, i)
		for range 20 {
			other := some(r, 1)[0]
			if tree.Check(x, n, i, other, p) && leaf(other) != leaf(pages[i]) {
				t.Fatalf("%d of %d pages: two leaves", i, n)
			}
		}
	}
}

// P35.7 (parts) and P35.8 (taken over).
func TestParts(t *testing.T) {
	r := rand.New(rand.NewPCG(35, 4))
	for n := 1; n <= 16; n *= 2 {
		pages := some(r, n)
		if n > 1 && root(t, pages) != digest.Pair(root(t, pages[:n/2]), root(t, pages[n/2:])) {
			t.Errorf("%d pages", n)
		}
		if more := append(slices.Clone(pages), []byte{9}); n < 16 && root(t, more) != digest.Pair(root(t, pages), leaf([]byte{9})) {
			t.Errorf("%d pages and one", n)
		}
	}
}
