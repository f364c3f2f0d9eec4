package image_test

import (
	"bytes"
	"fmt"
	"math"
	"math/rand/v2"
	"slices"
	"testing"

	"slotmesh/api"
	"slotmesh/image"
	"slotmesh/tree"
)

func same(a, b any) bool { return fmt.Sprint(a) == fmt.Sprint(b) }

func program(r *rand.Rand, n int) []byte {
	b := make([]byte, n)
	for i := range b {
		b[i] = byte(r.Uint32())
	}
	return b
}

func size(r *rand.Rand) int {
	return []int{1, 255, 256, 257, 300, 512, 4095, 4096, 1 + r.IntN(4096)}[r.IntN(9)]
}

// load returns the states while a program is loaded, and what was put.
func load(t *testing.T, p []byte) (states []api.Spread, pages [][]byte, proofs [][]uint64) {
	t.Helper()
	n, e := image.Announce(7, p, 99)
	if e != api.OK {
		t.Fatalf("Announce: %v", e)
	}
	s := api.Spread{Notice: n, Timer: api.Trickle{Seed: 5}}
	states = []api.Spread{s}
	pages, _ = image.Split(p)
	for i, page := range pages {
		proof, _ := tree.Proof(pages, i)
		s.Rows, s.Proof = []api.Row{{Mask: -1}}, []uint64{3}
		next, e := image.Put(s, page, proof)
		want := s
		want.Rows, want.Proof = nil, nil
		want.Pages, want.Proofs = append(slices.Clone(s.Pages), page), append(slices.Clone(s.Proofs), proof)
		if e != api.OK || !same(next, want) {
			t.Fatalf("the page %d: %v", i, e)
		}
		s = next
		states = append(states, s)
		proofs = append(proofs, proof)
	}
	return states, pages, proofs
}

// P36.1: AJ1 and AJ2; P36.2 (inverse) and P36.7 (sizes).
func TestSplitAndJoin(t *testing.T) {
	r := rand.New(rand.NewPCG(36, 1))
	for range 50 {
		n := size(r)
		p := program(r, n)
		pages, e := image.Split(p)
		if e != api.OK || len(pages) != (n+255)/256 {
			t.Fatalf("%d bytes: %d pages, %v", n, len(pages), e)
		}
		padded := append(bytes.Clone(p), make([]byte, 256*len(pages)-n)...)
		for i, page := range pages {
			if !bytes.Equal(page, padded[256*i:256*i+256]) {
				t.Fatalf("%d bytes: the page %d", n, i)
			}
		}
		if q, e := image.Join(pages, n); e != api.OK || !bytes.Equal(q, p) {
			t.Fatalf("%d bytes, joined: %v", n, e)
		}
		again, _ := image.Split(p)
		for k := max(1, n-300); k <= min(4096, n+300); k++ {
			q, e := image.Join(pages, k)
			switch {
			case (k+255)/256 != len(pages):
				if e != api.ErrArg || len(q) > 0 {
					t.Fatalf("%d bytes as %d: %v", n, k, e)
				}
			case slices.ContainsFunc(padded[k:], func(x byte) bool { return x != 0 }):
				if e != api.ErrSum || len(q) > 0 {
					t.Fatalf("%d bytes as %d: %v", n, k, e)
				}
			default:
				if s, _ := image.Split(q); e != api.OK || !bytes.Equal(q, padded[:k]) || !same(s, pages) {
					t.Fatalf("%d bytes as %d: %v", n, k, e)
				}
			}
		}
		pages[0][0]++
		if bytes.Equal(pages[0], again[0]) || p[0] != again[0][0] {
			t.Fatal("memory is shared")
		}
	}
	for _, n := range []int{0, 4097, 5000} {
		if pages, e := image.Split(make([]byte, n)); e != api.ErrArg || len(pages) > 0 {
			t.Errorf("%d bytes: %v", n, e)
		}
	}
	one, two := make([]byte, 256), make([]byte, 255)
	for _, x := range []struct {
		pages [][]byte
		size  int
	}{
		{nil, 0}, {nil, 1}, {[][]byte{one}, 0}, {[][]byte{one}, -1}, {[][]byte{one}, 257}, {[][]byte{two}, 5}, {[][]byte{one, two}, 300}, {[][]byte{two, one}, 300}, {[][]byte{one, one}, 256}, {slices.Repeat([][]byte{one}, 17), 4097},
		{[][]byte{one}, math.MaxInt}, {[][]byte{one}, math.MinInt}, {[][]byte{append(one, 0)}, 5},
	} {
		if p, e := image.Join(x.pages, x.size); e != api.ErrArg || len(p) > 0 {
			t.Errorf("%d pages, %d bytes: %v", len(x.pages), x.size, e)
		}
	}
	p, _ := image.Join([][]byte{one}, 5)
	p[0] = 9
	if one[0] != 0 {
		t.Error("Join shares memory")
	}
}

// P36.1: AJ3; P36.6 (notices).
func TestAnnounce(t *testing.T) {
	r := rand.New(rand.NewPCG(36, 2))
	for range 50 {
		p := program(r, size(r))
		n, e := image.Announce(3, p, 17)
		pages, _ := image.Split(p)
		root, _ := tree.Root(pages)
		if e != api.OK || n != (api.Notice{Version: 3, Size: len(p), Digest: root, Start: 17}) {
			t.Fatalf("%d bytes: %v %v", len(p), n, e)
		}
		p[r.IntN(len(p))] ^= byte(1 + r.IntN(255))
		if m, _ := image.Announce(3, p, 17); m.Digest == n.Digest {
			t.Fatalf("%d bytes: the same digest", len(p))
		}
	}
	for _, x := range []struct {
		version, size, start int
		ok                   bool
	}{
		{1, 1, 0, true}, {1000000000, 4096, 1000000000, true}, {0, 1, 0, false}, {-1, 1, 0, false}, {1000000001, 1, 0, false}, {1, 0, 0, false}, {1, 4097, 0, false}, {1, 1, -1, false}, {1, 1, 1000000001, false}, {math.MinInt, 1, math.MaxInt, false},
	} {
		n, e := image.Announce(x.version, make([]byte, x.size), x.start)
		if x.ok != (e == api.OK) || !x.ok && (e != api.ErrArg || n != (api.Notice{})) {
			t.Errorf("%v: %v %v", x, n, e)
		}
	}
}

// P36.1: AJ4 and AJ5; P36.3 (loading) and P36.5 (nothing else).
func TestLoading(t *testing.T) {
	r := rand.New(rand.NewPCG(36, 3))
	for range 60 {
		p := program(r, size(r))
		states, pages, proofs := load(t, p)
		for i, s := range states {
			q, ok := image.Whole(s)
			if ok != (i == len(pages)) || ok && !bytes.Equal(q, p) || !ok && len(q) > 0 {
				t.Fatalf("%d pages of %d: %v", i, len(pages), ok)
			}
		}
		last := states[len(pages)]
		if x, e := image.Put(last, pages[0], proofs[0]); e != api.ErrFull || !same(x, api.Spread{}) {
			t.Fatalf("one more page: %v", e)
		}
		if x, e := image.Put(last, pages[0][1:], proofs[0]); e != api.ErrArg || !same(x, api.Spread{}) {
			t.Fatalf("one more page: %v", e)
		}
		before := fmt.Sprint(states[len(pages)-1], pages, proofs)
		x, _ := image.Put(states[len(pages)-1], pages[len(pages)-1], proofs[len(pages)-1])
		for i := range x.Pages {
			x.Pages[i][0]++
			if len(x.Proofs[i]) > 0 {
				x.Proofs[i][0]++
			}
		}
		whole, _ := image.Whole(last)
		whole[0]++
		if fmt.Sprint(states[len(pages)-1], pages, proofs) != before {
			t.Fatal("memory is shared")
		}
	}
	p := []byte{1, 2, 3} // what is behind the program is not zero
	page := append(p, make([]byte, 253)...)
	page[200] = 1
	root, _ := tree.Root([][]byte{page})
	s := api.Spread{Notice: api.Notice{Version: 1, Size: 3, Digest: root}}
	s, e := image.Put(s, page, nil)
	if q, ok := image.Whole(s); e != api.OK || ok || len(q) > 0 {
		t.Errorf("%v %v", e, ok)
	}
}

// P36.4 (only the right bytes).
func TestWrongPages(t *testing.T) {
	r := rand.New(rand.NewPCG(36, 4))
	for range 60 {
		p := program(r, size(r))
		states, pages, proofs := load(t, p)
		i := r.IntN(len(pages))
		refused := func(page []byte, proof []uint64, want api.Errno) {
			t.Helper()
			if x, e := image.Put(states[i], page, proof); e != want || !same(x, api.Spread{}) {
				t.Fatalf("the page %d of %d: %v, want %v", i, len(pages), e, want)
			}
		}
		other := bytes.Clone(pages[i])
		other[r.IntN(256)] ^= byte(1 + r.IntN(255))
		refused(other, proofs[i], api.ErrSum)
		refused(pages[i], append(slices.Clone(proofs[i]), 0), api.ErrSum)
		for k := range proofs[i] {
			wrong := slices.Clone(proofs[i])
			wrong[k] ^= 1 << r.IntN(64)
			refused(pages[i], wrong, api.ErrSum)
			refused(pages[i], proofs[i][:k], api.ErrSum)
		}
		refused(pages[i][:255], proofs[i], api.ErrArg)
		refused(append(slices.Clone(pages[i]), 0), proofs[i], api.ErrArg)
		refused(nil, proofs[i], api.ErrArg)
		if k := (i + 1) % len(pages); k != i {
			refused(pages[k], proofs[k], api.ErrSum)
		}
	}
}

func copied[E any](l [][]E) [][]E {
	var c [][]E
	for _, x := range l {
		c = append(c, slices.Clone(x))
	}
	return c
}

// P36.1: states that are not sound.
func TestNotSound(t *testing.T) {
	r := rand.New(rand.NewPCG(36, 5))
	states, pages, proofs := load(t, program(r, 700))
	for i, change := range []func(*api.Spread){
		func(s *api.Spread) { s.Notice.Version = 0 }, func(s *api.Spread) { s.Notice.Version = 1000000001 }, func(s *api.Spread) { s.Notice.Size = 0 }, func(s *api.Spread) { s.Notice.Size = 4097 }, func(s *api.Spread) { s.Notice.Start = -1 },
		func(s *api.Spread) { s.Notice.Start = 1000000001 }, func(s *api.Spread) { s.Notice.Digest++ }, func(s *api.Spread) { s.Notice.Size = 256 }, func(s *api.Spread) { s.Notice.Size = 2000 }, func(s *api.Spread) { s.Notice.Size = math.MinInt },
		func(s *api.Spread) { s.Pages = s.Pages[:1] }, func(s *api.Spread) { s.Proofs = s.Proofs[:1] }, func(s *api.Spread) { s.Pages[1] = s.Pages[1][:255] }, func(s *api.Spread) { s.Pages[0] = pages[1] }, func(s *api.Spread) { s.Proofs[1] = s.Proofs[0] },
		func(s *api.Spread) { s.Proofs = append(s.Proofs, nil) }, func(s *api.Spread) { s.Notice.Size = math.MaxInt }, func(s *api.Spread) { s.Pages[0][9]++ },
	} {
		s := states[2]
		s.Pages, s.Proofs = copied(s.Pages), copied(s.Proofs)
		change(&s)
		if x, e := image.Put(s, pages[2], proofs[2]); e != api.ErrArg || !same(x, api.Spread{}) {
			t.Errorf("change %d: %v", i, e)
		}
		full := states[3]
		full.Pages, full.Proofs = copied(full.Pages), copied(full.Proofs)
		change(&full)
		if q, ok := image.Whole(full); ok || len(q) > 0 {
			t.Errorf("change %d, with all pages: %v", i, ok)
		}
	}
	if _, ok := image.Whole(api.Spread{}); ok {
		t.Error("the zero state")
	}
	full := states[3]
	full.Pages, full.Proofs = append(slices.Clone(full.Pages), pages[0]), append(slices.Clone(full.Proofs), proofs[0])
	if _, e := image.Put(full, pages[0], proofs[0]); e != api.ErrArg {
		t.Errorf("a page too many: %v", e)
	}
}
