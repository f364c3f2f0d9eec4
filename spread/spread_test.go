package spread_test

import (
	"bytes"
	"fmt"
	"math"
	"math/rand/v2"
	"slices"
	"testing"

	"slotmesh/api"
	"slotmesh/fountain"
	"slotmesh/image"
	"slotmesh/spread"
	"slotmesh/tree"
	"slotmesh/trickle"
)

const lastFrame = 1000000000 - 16

func same(a, b any) bool { return fmt.Sprint(a) == fmt.Sprint(b) }

// program is a program with all that can be told of it.
type program struct {
	bytes  []byte
	notice api.Notice
	pages  [][]byte
	proofs [][]uint64
}

func announced(t *testing.T, r *rand.Rand, version, size int) program {
	t.Helper()
	p := program{bytes: make([]byte, size)}
	for i := range p.bytes {
		p.bytes[i] = byte(r.Uint32())
	}
	var e api.Errno
	if p.notice, e = image.Announce(version, p.bytes, 50); e != api.OK {
		t.Fatalf("Announce: %v", e)
	}
	p.pages, _ = image.Split(p.bytes)
	for i := range p.pages {
		proof, _ := tree.Proof(p.pages, i)
		p.proofs = append(p.proofs, proof)
	}
	return p
}

// block returns a coded block with the proof of its page.
func (p program) block(page, seed int) api.Block {
	b, _ := fountain.Encode(p.pages[page], page, seed)
	b.Proof = p.proofs[page]
	return b
}

// state returns a state with some pages, and some rows of the next one.
func (p program) state(pages, rows int) api.Spread {
	timer, _ := trickle.New(7, 20)
	s := api.Spread{Notice: p.notice, Pages: slices.Clone(p.pages[:pages]), Proofs: slices.Clone(p.proofs[:pages]), Timer: timer}
	if pages < len(p.pages) {
		for i := range rows {
			s.Rows, _, _ = fountain.Receive(s.Rows, p.block(pages, i))
			s.Proof = p.proofs[pages]
		}
	}
	return s
}

func empty(seed int) api.Spread { return api.Spread{Timer: api.Trickle{Seed: seed}} }

// wrong are states that are not valid.
func wrong(p program) []api.Spread {
	var l []api.Spread
	for _, change := range []func(*api.Spread){
		func(s *api.Spread) { s.Notice.Version = 0 }, func(s *api.Spread) { s.Notice.Size = math.MaxInt }, func(s *api.Spread) { s.Notice.Digest++ }, func(s *api.Spread) { s.Pages = s.Pages[:1] }, func(s *api.Spread) { s.Proofs = nil },
		func(s *api.Spread) { s.Rows = append(slices.Clone(s.Rows), s.Rows[0]) }, func(s *api.Spread) { s.Rows = []api.Row{{Mask: 1}} }, func(s *api.Spread) { s.Rows = nil }, func(s *api.Spread) { s.Timer = api.Trickle{} }, func(s *api.Spread) { s.Timer.Interval = 3 },
		func(s *api.Spread) { s.Timer.Count = 101 }, func(s *api.Spread) { s.Timer.Count = -1 }, func(s *api.Spread) { s.Timer.Seed = -1 }, func(s *api.Spread) { s.Timer.Fire++ },
		func(s *api.Spread) { *s = p.state(len(p.pages), 0); s.Rows = p.state(0, 1).Rows }, func(s *api.Spread) { *s = p.state(len(p.pages), 0); s.Proof = []uint64{1} },
		func(s *api.Spread) {
			*s = p.state(0, 15)
			for i := range 16 {
				s.Rows, _, _ = fountain.Receive(s.Rows, p.block(0, i))
			}
		},
		func(s *api.Spread) { *s = empty(-1) }, func(s *api.Spread) { *s = empty(1000000001) }, func(s *api.Spread) { *s = empty(5); s.Timer.Begin = 1 }, func(s *api.Spread) { *s = empty(5); s.Notice.Start = 1 }, func(s *api.Spread) { *s = empty(5); s.Pages = [][]byte{nil} },
		func(s *api.Spread) { *s = empty(5); s.Proofs = [][]uint64{nil} }, func(s *api.Spread) { *s = empty(5); s.Rows = []api.Row{{}} }, func(s *api.Spread) { *s = empty(5); s.Proof = []uint64{0} }, func(s *api.Spread) { *s = empty(5); s.Notice.Digest = 1 },
		func(s *api.Spread) { *s = empty(5); s.Pages = [][]byte{nil}; s.Proofs = [][]uint64{nil} }, func(s *api.Spread) { *s = empty(5); s.Pages = [][]byte{nil}; s.Rows = []api.Row{{}} }, func(s *api.Spread) { *s = empty(5); s.Pages = [][]byte{nil}; s.Proof = []uint64{0} },
	} {
		s := p.state(2, 3)
		change(&s)
		l = append(l, s)
	}
	return l
}

// hear is AM1 for valid states by its definition.
func hear(s api.Spread, told api.Notice, pages, frame int) api.Spread {
	switch {
	case told.Version > s.Notice.Version:
		timer, _ := trickle.New(s.Timer.Seed, frame)
		return api.Spread{Notice: told, Timer: timer}
	case told.Version < s.Notice.Version:
		s.Timer = trickle.Reset(s.Timer, frame)
	case told == s.Notice && told != api.Notice{} && pages == len(s.Pages):
		s.Timer = trickle.Hear(s.Timer)
	case told == s.Notice && told != api.Notice{}:
		s.Timer = trickle.Reset(s.Timer, frame)
	}
	return s
}

// P39.1: AM1; P39.5 (versions).
func TestHear(t *testing.T) {
	r := rand.New(rand.NewPCG(39, 1))
	p, old, newer, other := announced(t, r, 5, 700), announced(t, r, 4, 100), announced(t, r, 6, 4096), announced(t, r, 5, 700)
	states := []api.Spread{empty(0), empty(9), empty(1000000000), p.state(0, 0), p.state(1, 3), p.state(2, 15), p.state(3, 0)}
	late := p.state(1, 1)
	late.Timer = api.Trickle{Interval: 8, Begin: 16, Fire: 20, Count: 100, Seed: 7}
	states = append(states, late)
	shifted := p.notice
	shifted.Start++
	for _, s := range states {
		for _, told := range []api.Notice{{}, p.notice, old.notice, newer.notice, other.notice, shifted} {
			for pages := range (told.Size+255)/256 + 1 {
				for _, frame := range []int{0, 20, 23, 500, lastFrame} {
					before := fmt.Sprint(s)
					x := spread.Hear(s, told, pages, frame)
					if want := hear(s, told, pages, frame); !same(x, want) {
						t.Fatalf("%v hears %v, %d pages in %d: %v", s, told, pages, frame, x)
					}
					if x.Notice.Version < s.Notice.Version || told.Version <= s.Notice.Version && (x.Notice != s.Notice || !same(x.Pages, s.Pages) || !same(x.Rows, s.Rows)) {
						t.Fatalf("%v hears %v: %v", s, told, x)
					}
					if y := spread.Hear(x, x.Notice, len(x.Pages), frame); x.Notice.Version > 0 && y.Timer == x.Timer && x.Timer.Count < 100 {
						t.Fatalf("%v is not valid", x)
					}
					for i := range x.Pages {
						x.Pages[i][0]++
					}
					for i := range x.Rows {
						x.Rows[i].Data[0]++
					}
					if fmt.Sprint(s) != before {
						t.Fatal("memory is shared")
					}
				}
			}
		}
	}
	fresh := spread.Hear(empty(9), newer.notice, 16, 33)
	if fresh.Notice != newer.notice || fresh.Timer != (api.Trickle{Interval: 1, Begin: 33, Fire: 33, Seed: 9}) || len(fresh.Pages) > 0 {
		t.Errorf("a new program: %v", fresh)
	}
	s := p.state(1, 3)
	s.Timer = api.Trickle{Interval: 4, Begin: 20, Fire: 22, Seed: 7}
	for _, x := range []struct {
		told         api.Notice
		pages, frame int
	}{
		{newer.notice, -1, 20}, {newer.notice, 17, 20}, {newer.notice, 1, -1}, {newer.notice, 1, lastFrame + 1}, {newer.notice, 1, math.MaxInt}, {newer.notice, math.MinInt, 20}, {api.Notice{}, 1, 20}, {p.notice, 4, 20}, {old.notice, 2, 20},
		{api.Notice{Version: 6}, 0, 20}, {api.Notice{Version: 6, Size: 4097}, 0, 20}, {api.Notice{Version: -1, Size: 5}, 0, 20}, {api.Notice{Size: 5}, 0, 20}, {api.Notice{Start: 5}, 0, 20}, {api.Notice{Version: 6, Size: 5, Start: -1}, 0, 20}, {api.Notice{Version: 1000000001, Size: 5}, 0, 20},
		{api.Notice{Version: 6, Size: math.MaxInt}, 0, 20}, {api.Notice{Digest: 1}, 0, 20},
	} {
		if y := spread.Hear(s, x.told, x.pages, x.frame); !same(y, s) {
			t.Errorf("%v: %v", x, y)
		}
	}
	for i, s := range wrong(p) {
		for _, told := range []api.Notice{newer.notice, p.notice, {}} {
			if y := spread.Hear(s, told, 0, 30); !same(y, s) {
				t.Errorf("the wrong state %d: %v", i, y)
			}
		}
	}
}

// P39.1: AM2, in the order of its errors; P39.8 (wrong blocks).
func TestReceive(t *testing.T) {
	r := rand.New(rand.NewPCG(39, 2))
	p := announced(t, r, 5, 700)
	unchanged := func(s api.Spread, b api.Block, want api.Errno) {
		t.Helper()
		if x, e := spread.Receive(s, b); e != want || !same(x, s) {
			t.Errorf("%v: %v, want %v", b, e, want)
		}
	}
	s := p.state(1, 3)
	good := p.block(1, 9)
	for i, w := range wrong(p) {
		if x, e := spread.Receive(w, good); e != api.ErrArg || !same(x, w) {
			t.Errorf("the wrong state %d: %v", i, e)
		}
	}
	for _, change := range []func(*api.Block){
		func(b *api.Block) { b.Page = -1 }, func(b *api.Block) { b.Page = 16 }, func(b *api.Block) { b.Seed = -1 }, func(b *api.Block) { b.Seed = 1000000001 }, func(b *api.Block) { b.Data = b.Data[:15] }, func(b *api.Block) { b.Data = nil }, func(b *api.Block) { b.Page = math.MinInt },
	} {
		b := good
		change(&b)
		unchanged(s, b, api.ErrArg)
		unchanged(empty(5), b, api.ErrArg)
	}
	for seed := range 3 {
		unchanged(empty(5), p.block(seed, 2), api.ErrNone)
		unchanged(p.state(3, 0), p.block(seed, 2), api.ErrFull)
	}
	unchanged(s, p.block(0, 2), api.ErrOld)
	unchanged(s, p.block(2, 2), api.ErrState)
	later := good
	later.Page = 15
	unchanged(s, later, api.ErrState)
	for _, proof := range [][]uint64{nil, {1}, append(slices.Clone(good.Proof), 0), good.Proof[:1]} {
		b := good
		b.Proof = proof
		unchanged(s, b, api.ErrSum)
		first, e := spread.Receive(p.state(1, 0), b) // the first block of a page decides about the proof
		if e != api.OK || !slices.Equal(first.Proof, proof) || len(first.Rows) != 1 {
			t.Errorf("the proof %v: %v", proof, e)
		}
		for i := range 16 {
			b := p.block(1, i)
			b.Proof = proof
			first, e = spread.Receive(first, b)
		}
		if e != api.ErrSum || len(first.Pages) != 1 || len(first.Rows)+len(first.Proof) > 0 {
			t.Errorf("the proof %v: %v %v", proof, first, e)
		}
	}
	bad := p.block(1, 2)
	bad.Data = bytes.Clone(bad.Data)
	bad.Data[5] ^= 8
	x, e := spread.Receive(s, bad) // contradicts the rows
	anew := s
	anew.Rows, anew.Proof = nil, nil
	if e != api.ErrSum || !same(x, anew) {
		t.Errorf("a contradiction: %v %v", x, e)
	}
	for wrongAt := range 17 { // a wrong block with the right proof, among the right ones
		s := p.state(1, 0)
		for i := range 16 {
			b := p.block(1, i)
			if i == wrongAt {
				b.Data = bytes.Clone(b.Data)
				b.Data[3] ^= 1
			}
			s, e = spread.Receive(s, b)
			if i < 15 && e != api.OK || i == 15 && wrongAt < 16 && e != api.ErrSum {
				t.Fatalf("a wrong block %d, the block %d: %v", wrongAt, i, e)
			}
		}
		if wrongAt < 16 && (len(s.Pages) != 1 || len(s.Rows)+len(s.Proof) > 0) || wrongAt == 16 && (len(s.Pages) != 2 || e != api.OK) {
			t.Fatalf("a wrong block %d: %d pages, %v", wrongAt, len(s.Pages), e)
		}
		if wrongAt < 16 {
			for i := range 16 {
				s, _ = spread.Receive(s, p.block(1, i))
			}
		}
		if !same(s, p.state(2, 0)) {
			t.Fatalf("a wrong block %d, and then right ones: %v", wrongAt, s)
		}
	}
}

// P39.1: AM2; P39.2 (validity), P39.3 (loading) and P39.4 (enough).
func TestLoading(t *testing.T) {
	r := rand.New(rand.NewPCG(39, 3))
	for range 30 {
		p := announced(t, r, 1+r.IntN(9), []int{1, 256, 700, 1024, 4096}[r.IntN(5)])
		s := spread.Hear(empty(3), p.notice, 0, 20)
		for page := range p.pages {
			rows := []api.Row(nil)
			for i := 0; len(s.Pages) == page; i++ {
				seed := r.IntN(500)
				if i >= 20 {
					seed = i - 20
				}
				b := p.block(page, seed)
				want := s
				var e api.Errno
				if rows, _, e = fountain.Receive(rows, b); e != api.OK {
					t.Fatal(e)
				}
				want.Rows, want.Proof = rows, p.proofs[page]
				if len(rows) == 16 {
					want.Pages, want.Proofs = append(slices.Clone(s.Pages), p.pages[page]), append(slices.Clone(s.Proofs), p.proofs[page])
					want.Rows, want.Proof = nil, nil
				}
				before := fmt.Sprint(s, b)
				x, e := spread.Receive(s, b)
				if e != api.OK || !same(x, want) {
					t.Fatalf("the page %d, the block %d: %v", page, i, e)
				}
				y, _ := spread.Receive(s, b)
				for k := range y.Rows {
					y.Rows[k].Data[0]++
				}
				for k := range y.Proof {
					y.Proof[k]++
				}
				for k := range y.Pages {
					y.Pages[k][0]++
				}
				if fmt.Sprint(s, b) != before {
					t.Fatal("memory is shared")
				}
				if y := spread.Hear(x, x.Notice, len(x.Pages), 21); y.Timer.Count != 1 {
					t.Fatal("not valid")
				}
				s = x
			}
		}
		if q, ok := image.Whole(s); !ok || !bytes.Equal(q, p.bytes) {
			t.Fatalf("%d bytes are not loaded", len(p.bytes))
		}
	}
}

func near(n api.Notice, pages ...int) []api.Near {
	var l []api.Near
	for i, k := range pages {
		l = append(l, api.Near{Frame: i, Told: api.Beacon{From: i, Notice: n, Pages: k}})
	}
	return l
}

// P39.1: AM3; P39.6 (serving) and P39.7 (silence).
func TestServe(t *testing.T) {
	r := rand.New(rand.NewPCG(39, 4))
	p, other := announced(t, r, 5, 1000), announced(t, r, 5, 1000)
	served := 0
	for range 3000 {
		s := p.state(r.IntN(5), r.IntN(3))
		s.Timer.Seed = []int{7, 64, 1000000000, r.IntN(1000)}[r.IntN(4)]
		if r.IntN(2) == 0 {
			s.Timer, _ = trickle.Tick(s.Timer, s.Timer.Begin+1+r.IntN(3))
		}
		for range r.IntN(3) {
			s.Timer = trickle.Hear(s.Timer)
		}
		frame := []int{s.Timer.Fire, s.Timer.Begin, s.Timer.Begin + r.IntN(10), lastFrame, s.Timer.Begin - 1}[r.IntN(5)]
		var around []api.Near
		for range r.IntN(4) {
			around = append(around, near([]api.Notice{p.notice, p.notice, other.notice, {}}[r.IntN(4)], []int{0, 1, 2, 3, 4, 16, -1}[r.IntN(7)])...)
		}
		timer, speaks := trickle.Tick(s.Timer, frame)
		least, there := math.MaxInt, false
		for _, n := range around {
			if n.Told.Notice == p.notice {
				least, there = min(least, n.Told.Pages), true
			}
		}
		want := s
		want.Timer = timer
		before := fmt.Sprint(s, around)
		x, b, ok := spread.Serve(s, around, frame)
		if should := speaks && there && least >= 0 && least < len(s.Pages); ok != should || !same(x, want) {
			t.Fatalf("%v with %v in %d: %v %v", s, around, frame, ok, should)
		}
		if !ok {
			if !same(b, api.Block{}) {
				t.Fatalf("%v", b)
			}
			continue
		}
		served++
		wb, _ := fountain.Encode(p.pages[least], least, (64*frame+s.Timer.Seed%64)%1000000001)
		wb.Proof = p.proofs[least]
		if !same(b, wb) {
			t.Fatalf("%v in %d: %v, want %v", s.Timer, frame, b, wb)
		}
		if y, e := spread.Receive(p.state(least, 0), b); e != api.OK || len(y.Rows) != 1 {
			t.Fatalf("the block is not taken: %v", e)
		}
		b.Data[0]++
		for i := range b.Proof {
			b.Proof[i]++
		}
		if fmt.Sprint(s, around) != before || !same(x, want) {
			t.Fatal("memory is shared")
		}
	}
	if served < 60 {
		t.Errorf("only %d blocks", served)
	}
	for _, frame := range []int{15624999, 15625000, 15625001, lastFrame} { // where seeds begin with 0 again
		for _, seed := range []int{0, 1, 2, 63, 64, 65, 1000000000} {
			s := p.state(1, 0)
			s.Timer, _ = trickle.New(seed, frame)
			_, b, ok := spread.Serve(s, near(p.notice, 0), frame)
			if !ok || b.Seed != (64*frame+seed%64)%1000000001 {
				t.Errorf("in %d: %v %v", frame, b, ok)
			}
		}
	}
	quiet := func(s api.Spread, around []api.Near, frame int) {
		t.Helper()
		if x, b, ok := spread.Serve(s, around, frame); ok || !same(x, s) || !same(b, api.Block{}) {
			t.Errorf("%v in %d: %v %v", s, frame, b, ok)
		}
	}
	for _, s := range append(wrong(p), empty(5)) {
		for _, frame := range []int{20, 25, 500} {
			quiet(s, near(p.notice, 0), frame)
			quiet(s, near(api.Notice{}, 0), frame)
		}
	}
	s := p.state(4, 0)
	for _, frame := range []int{-1, lastFrame + 1, math.MaxInt, math.MinInt} {
		quiet(s, near(p.notice, 0), frame)
	}
	if _, _, ok := spread.Serve(s, near(p.notice, 0), 20); !ok {
		t.Error("it should speak")
	}
	if _, _, ok := spread.Serve(heardTwice(s), near(p.notice, 0), 20); ok {
		t.Error("two others have said the same")
	}
	if _, _, ok := spread.Serve(s, near(p.notice, 4, 4), 20); ok {
		t.Error("all have everything")
	}
	if x, _, ok := spread.Serve(s, nil, 20); ok || !same(x, s) {
		t.Error("nobody is near")
	}
}

// heardTwice returns a state that has heard the same from two others.
func heardTwice(s api.Spread) api.Spread {
	s = spread.Hear(s, s.Notice, len(s.Pages), 20)
	return spread.Hear(s, s.Notice, len(s.Pages), 20)
}

// The example of the chapter.
func TestExample(t *testing.T) {
	r := rand.New(rand.NewPCG(39, 5))
	p := announced(t, r, 2, 700)
	s := spread.Hear(empty(4), p.notice, 3, 10)
	if _, e := spread.Receive(s, p.block(1, 0)); e != api.ErrState {
		t.Errorf("%v", e)
	}
	for i := range 16 {
		var e api.Errno
		if s, e = spread.Receive(s, p.block(0, i)); e != api.OK {
			t.Fatalf("the block %d: %v", i, e)
		}
	}
	if len(s.Pages) != 1 || !bytes.Equal(s.Pages[0], p.pages[0]) {
		t.Errorf("%d pages", len(s.Pages))
	}
}
