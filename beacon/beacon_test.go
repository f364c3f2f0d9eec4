package beacon_test

import (
	"bytes"
	"encoding/binary"
	"fmt"
	"math"
	"math/rand/v2"
	"slices"
	"testing"

	"slotmesh/api"
	"slotmesh/beacon"
	"slotmesh/wire"
)

func same(a, b any) bool { return fmt.Sprint(a) == fmt.Sprint(b) }

// text collects what is written.
type text struct{ b []byte }

func (t *text) numbers(list ...int) {
	for _, n := range list {
		z := uint64(2 * n)
		if n < 0 {
			z = uint64(-2*n - 1)
		}
		t.b = binary.AppendUvarint(t.b, z)
	}
}

func (t *text) digest(x uint64) { t.b = binary.BigEndian.AppendUint64(t.b, x) }

func flag(b bool) int {
	if b {
		return 1
	}
	return 0
}

func (t *text) words(l []api.Word) {
	t.numbers(len(l))
	for _, w := range l {
		t.numbers(w.Kind, w.Stranger, w.Sponsor, w.Nonce, w.Challenge, w.Key, w.Ring.First, w.Ring.Next)
	}
}

// model writes a beacon in the order of the table.
func model(b api.Beacon) []byte {
	t := &text{}
	t.numbers(b.From, b.ASN, b.Boot, b.Hops, b.Bound, b.Fresh, b.Route.Seq, b.Route.Rank, b.Parent, b.Ring.First, b.Ring.Next, len(b.Uses))
	for _, u := range b.Uses {
		t.numbers(u.Cell.Slot, u.Cell.Offset, u.Peer, u.Stamp)
	}
	t.numbers(len(b.Grants))
	for _, g := range b.Grants {
		t.numbers(g.Cell.Slot, g.Cell.Offset, g.Peer, g.Stamp, g.Until)
	}
	t.numbers(len(b.Asks))
	for _, a := range b.Asks {
		t.numbers(a.Cell.Slot, a.Cell.Offset, a.Peer)
	}
	t.numbers(len(b.Below))
	for _, d := range b.Below {
		t.numbers(d.Target, d.Seq)
	}
	t.numbers(flag(b.Full))
	t.words(b.Words)
	t.words(b.Mail)
	t.numbers(len(b.Got))
	t.numbers(b.Got...)
	t.numbers(b.Notice.Version, b.Notice.Size)
	t.digest(b.Notice.Digest)
	t.numbers(b.Notice.Start, b.Pages, b.Version, flag(b.Has))
	if b.Has {
		t.numbers(b.Block.Page, b.Block.Seed)
		t.b = append(t.b, b.Block.Data...)
		t.numbers(len(b.Block.Proof))
		for _, x := range b.Block.Proof {
			t.digest(x)
		}
	}
	return t.b
}

// some returns a random number between limits, often one of them.
func some(r *rand.Rand, low, high int) int {
	return []int{low, high, low + r.IntN(high-low+1), low + r.IntN(min(high-low+1, 9))}[r.IntN(4)]
}

func ring(r *rand.Rand) api.Ring {
	return api.Ring{First: some(r, 0, 500002), Next: some(r, 0, 500002)}
}

func words(r *rand.Rand, most int) []api.Word {
	var l []api.Word
	for range r.IntN(most + 1) {
		l = append(l, api.Word{Kind: some(r, 1, 4), Stranger: some(r, 0, 59), Sponsor: some(r, -1, 59), Nonce: some(r, 0, 10000000000000), Challenge: some(r, 0, 10000000000000), Key: some(r, 0, 2000000), Ring: ring(r)})
	}
	return l
}

// random returns a valid beacon with at most so many elements in its lists, as far as they can have them.
func random(r *rand.Rand, most int) api.Beacon {
	frame := func() int { return some(r, 0, 1000000000) }
	b := api.Beacon{From: some(r, 0, 59), ASN: frame(), Boot: frame(), Hops: some(r, 0, 60), Bound: some(r, 0, 2000), Fresh: frame(), Route: api.Distance{Seq: frame(), Rank: some(r, 0, 1000000)}, Parent: some(r, -1, 59), Ring: ring(r), Full: r.IntN(2) == 0}
	cell := func() api.Cell { return api.Cell{Slot: some(r, 0, 59), Offset: some(r, 0, 15)} }
	for range r.IntN(min(most, 24) + 1) {
		b.Uses = append(b.Uses, api.Use{Cell: cell(), Peer: some(r, 0, 59), Stamp: frame()})
	}
	for range r.IntN(min(most, 24) + 1) {
		b.Grants = append(b.Grants, api.Grant{Cell: cell(), Peer: some(r, 0, 59), Stamp: frame(), Until: frame()})
	}
	for range r.IntN(min(most, 24) + 1) {
		b.Asks = append(b.Asks, api.Ask{Cell: cell(), Peer: some(r, 0, 59)})
	}
	for range r.IntN(most + 1) {
		b.Below = append(b.Below, api.Down{Target: some(r, 0, 59), Seq: frame()})
		b.Got = append(b.Got, some(r, 0, 59))
	}
	b.Words, b.Mail = words(r, min(most, 4)), words(r, min(most, 1))
	b.Notice = api.Notice{Version: frame(), Size: some(r, 0, 4096), Digest: r.Uint64(), Start: frame()}
	b.Pages, b.Version, b.Has = some(r, 0, 16), frame(), r.IntN(2) == 0
	if b.Has {
		b.Block = api.Block{Page: some(r, 0, 15), Seed: frame(), Data: make([]byte, 16)}
		for i := range b.Block.Data {
			b.Block.Data[i] = byte(r.Uint32())
		}
		for range r.IntN(min(most, 5) + 1) {
			b.Block.Proof = append(b.Block.Proof, r.Uint64())
		}
	}
	return b
}

// P40.1: AN1 and AN2; P40.2 (inverse), P40.3 (ends) and P40.4 (in a frame).
func TestEncode(t *testing.T) {
	if b, e := beacon.Encode(api.Beacon{}); e != api.OK || !bytes.Equal(b, make([]byte, 33)) {
		t.Errorf("the zero beacon: %v %v", b, e)
	}
	r := rand.New(rand.NewPCG(40, 1))
	for i := range 600 {
		b := random(r, []int{1, 3, 60}[r.IntN(3)])
		x, e := beacon.Encode(b)
		if e != api.OK || !bytes.Equal(x, model(b)) {
			t.Fatalf("%v: %v %v", b, x, e)
		}
		c, e := beacon.Decode(x)
		if e != api.OK || !same(b, c) {
			t.Fatalf("%v is read as %v %v", b, c, e)
		}
		if packed, e := wire.Pack(api.Frame{Kind: 1, Body: x}); e != api.OK || len(x) > 4000 {
			t.Fatalf("%d bytes: %v", len(x), e)
		} else if f, _ := wire.Unpack(packed); !bytes.Equal(f.Body, x) {
			t.Fatal("another body")
		}
		for k := range x {
			if len(x) > 300 && i%10 > 0 && k%17 > 0 {
				continue
			}
			if c, e := beacon.Decode(x[:k]); e != api.ErrShort || !same(c, api.Beacon{}) {
				t.Fatalf("%d of %d bytes: %v", k, len(x), e)
			}
		}
		for _, more := range [][]byte{{0}, {128}, {1, 2}} {
			if c, e := beacon.Decode(append(slices.Clone(x), more...)); e != api.ErrShort || !same(c, api.Beacon{}) {
				t.Fatalf("more bytes: %v", e)
			}
		}
		if b.Has {
			y := slices.Clone(x)
			c, _ := beacon.Decode(y)
			c.Block.Data[0]++
			if !bytes.Equal(x, y) {
				t.Fatal("memory is shared")
			}
		}
	}
}

// field changes a number of a beacon, which is valid from low to high.
type field struct {
	low, high int
	set       func(*api.Beacon, int)
}

func fields() []field {
	return []field{
		{0, 59, func(b *api.Beacon, n int) { b.From = n }}, {0, 1000000000, func(b *api.Beacon, n int) { b.ASN = n }}, {0, 1000000000, func(b *api.Beacon, n int) { b.Boot = n }}, {0, 60, func(b *api.Beacon, n int) { b.Hops = n }},
		{0, 2000, func(b *api.Beacon, n int) { b.Bound = n }}, {0, 1000000000, func(b *api.Beacon, n int) { b.Fresh = n }}, {0, 1000000000, func(b *api.Beacon, n int) { b.Route.Seq = n }}, {0, 1000000, func(b *api.Beacon, n int) { b.Route.Rank = n }},
		{-1, 59, func(b *api.Beacon, n int) { b.Parent = n }}, {0, 500002, func(b *api.Beacon, n int) { b.Ring.First = n }}, {0, 500002, func(b *api.Beacon, n int) { b.Ring.Next = n }},
		{0, 59, func(b *api.Beacon, n int) { b.Uses[1].Cell.Slot = n }}, {0, 15, func(b *api.Beacon, n int) { b.Uses[1].Cell.Offset = n }}, {0, 59, func(b *api.Beacon, n int) { b.Uses[1].Peer = n }}, {0, 1000000000, func(b *api.Beacon, n int) { b.Uses[1].Stamp = n }},
		{0, 59, func(b *api.Beacon, n int) { b.Grants[1].Cell.Slot = n }}, {0, 15, func(b *api.Beacon, n int) { b.Grants[1].Cell.Offset = n }}, {0, 59, func(b *api.Beacon, n int) { b.Grants[1].Peer = n }}, {0, 1000000000, func(b *api.Beacon, n int) { b.Grants[1].Stamp = n }}, {0, 1000000000, func(b *api.Beacon, n int) { b.Grants[1].Until = n }},
		{0, 59, func(b *api.Beacon, n int) { b.Asks[1].Cell.Slot = n }}, {0, 15, func(b *api.Beacon, n int) { b.Asks[1].Cell.Offset = n }}, {0, 59, func(b *api.Beacon, n int) { b.Asks[1].Peer = n }}, {0, 59, func(b *api.Beacon, n int) { b.Below[1].Target = n }}, {0, 1000000000, func(b *api.Beacon, n int) { b.Below[1].Seq = n }},
		{1, 4, func(b *api.Beacon, n int) { b.Words[1].Kind = n }}, {0, 59, func(b *api.Beacon, n int) { b.Words[1].Stranger = n }}, {-1, 59, func(b *api.Beacon, n int) { b.Words[1].Sponsor = n }}, {0, 10000000000000, func(b *api.Beacon, n int) { b.Words[1].Nonce = n }},
		{0, 10000000000000, func(b *api.Beacon, n int) { b.Words[1].Challenge = n }}, {0, 2000000, func(b *api.Beacon, n int) { b.Words[1].Key = n }}, {0, 500002, func(b *api.Beacon, n int) { b.Words[1].Ring.First = n }}, {0, 500002, func(b *api.Beacon, n int) { b.Mail[0].Ring.Next = n }},
		{1, 4, func(b *api.Beacon, n int) { b.Mail[0].Kind = n }}, {0, 59, func(b *api.Beacon, n int) { b.Got[1] = n }}, {0, 1000000000, func(b *api.Beacon, n int) { b.Notice.Version = n }}, {0, 4096, func(b *api.Beacon, n int) { b.Notice.Size = n }}, {0, 1000000000, func(b *api.Beacon, n int) { b.Notice.Start = n }},
		{0, 16, func(b *api.Beacon, n int) { b.Pages = n }}, {0, 1000000000, func(b *api.Beacon, n int) { b.Version = n }}, {0, 15, func(b *api.Beacon, n int) { b.Block.Page = n }}, {0, 1000000000, func(b *api.Beacon, n int) { b.Block.Seed = n }},
		{0, 24, func(b *api.Beacon, n int) { b.Uses = slices.Repeat(b.Uses[:1], n) }}, {0, 24, func(b *api.Beacon, n int) { b.Grants = slices.Repeat(b.Grants[:1], n) }}, {0, 24, func(b *api.Beacon, n int) { b.Asks = slices.Repeat(b.Asks[:1], n) }}, {0, 60, func(b *api.Beacon, n int) { b.Below = slices.Repeat(b.Below[:1], n) }},
		{0, 4, func(b *api.Beacon, n int) { b.Words = slices.Repeat(b.Words[:1], n) }}, {0, 1, func(b *api.Beacon, n int) { b.Mail = slices.Repeat(b.Mail[:1], n) }}, {0, 60, func(b *api.Beacon, n int) { b.Got = slices.Repeat(b.Got[:1], n) }}, {0, 5, func(b *api.Beacon, n int) { b.Block.Proof = slices.Repeat([]uint64{9}, n) }},
	}
}

func full() api.Beacon {
	w := api.Word{Kind: 1}
	return api.Beacon{Uses: make([]api.Use, 2), Grants: make([]api.Grant, 2), Asks: make([]api.Ask, 2), Below: make([]api.Down, 2), Words: []api.Word{w, w}, Mail: []api.Word{w}, Got: make([]int, 2), Has: true, Block: api.Block{Data: make([]byte, 16)}}
}

// P40.1: what is not valid.
func TestLimits(t *testing.T) {
	for i, x := range fields() {
		list := i >= len(fields())-8
		for _, n := range []int{x.low, x.high, x.low - 1, x.high + 1, math.MaxInt, math.MinInt} {
			if list && (n < 0 || n > 100) {
				continue
			}
			b := full()
			x.set(&b, n)
			ok := n >= x.low && n <= x.high
			raw, e := beacon.Encode(b)
			if ok && e != api.OK || !ok && (e != api.ErrArg || len(raw) > 0) {
				t.Errorf("the field %d is %d: %v", i, n, e)
			}
			if _, e := beacon.Note(nil, b, 5); (e == api.OK) != ok || !ok && e != api.ErrArg {
				t.Errorf("the field %d is %d, noted: %v", i, n, e)
			}
			if n < -10000000000000 || n > 10000000000000 {
				continue
			}
			if c, e := beacon.Decode(model(b)); ok && (e != api.OK || !same(c, b)) || !ok && (e != api.ErrRange || !same(c, api.Beacon{})) {
				t.Errorf("the field %d is %d, decoded: %v", i, n, e)
			}
		}
	}
	for i, change := range []func(*api.Beacon){
		func(b *api.Beacon) { b.Below[1].Next = 1 }, func(b *api.Beacon) { b.Below[0].Until = 1 }, func(b *api.Beacon) { b.Block.Data = make([]byte, 15) }, func(b *api.Beacon) { b.Block.Data = make([]byte, 17) }, func(b *api.Beacon) { b.Block.Data = nil },
		func(b *api.Beacon) { b.Has = false }, func(b *api.Beacon) { b.Has, b.Block = false, api.Block{Page: 1} }, func(b *api.Beacon) { b.Has, b.Block = false, api.Block{Seed: 1} }, func(b *api.Beacon) { b.Has, b.Block = false, api.Block{Proof: []uint64{0}} },
		func(b *api.Beacon) { b.Has, b.Block = false, api.Block{Data: []byte{0}} }, func(b *api.Beacon) { b.Has, b.Block = false, api.Block{Data: []byte{0}, Proof: []uint64{0}} },
	} {
		b := full()
		change(&b)
		if x, e := beacon.Encode(b); e != api.ErrArg || len(x) > 0 {
			t.Errorf("change %d: %v", i, e)
		}
	}
	b := full()
	for at, x := range model(b) { // flags, numbers that are written wrongly, and numbers that do not end
		raw := model(b)
		if x > 64 {
			continue
		}
		raw = slices.Insert(raw, at, 128, 128, 128, 128, 128, 128, 128)
		if c, e := beacon.Decode(raw); e == api.OK || !same(c, api.Beacon{}) {
			t.Errorf("an endless number at %d: %v", at, e)
		}
	}
	zero := make([]byte, 33)
	for _, at := range []int{15, 32} { // Full and Has
		for _, x := range []byte{1, 4, 127} {
			raw := slices.Clone(zero)
			raw[at] = x
			if _, e := beacon.Decode(raw); e != api.ErrRange {
				t.Errorf("the flag at %d is %d: %v", at, x, e)
			}
		}
	}
	if _, e := beacon.Decode([]byte{128, 0, 128}); e != api.ErrRange {
		t.Errorf("a number with a last byte 0: %v", e)
	}
	if _, e := beacon.Decode([]byte{120, 128}); e != api.ErrRange {
		t.Errorf("the first error: %v", e)
	}
}

func heard(from, frame int) api.Near {
	return api.Near{Frame: frame, Told: api.Beacon{From: from, Fresh: frame}}
}

// P40.1: AN3; P40.5 (noting) and P40.6 (the last one).
func TestNote(t *testing.T) {
	r := rand.New(rand.NewPCG(40, 2))
	for range 300 {
		var near []api.Near
		for id := range 8 {
			if r.IntN(2) == 0 {
				b := random(r, 2)
				b.From = id * 8
				near = append(near, api.Near{Frame: r.IntN(10), Told: b})
			}
		}
		b := random(r, 2)
		b.From = r.IntN(60)
		frame := r.IntN(10)
		before := fmt.Sprint(near, b)
		want := slices.Clone(near)
		at := slices.IndexFunc(near, func(n api.Near) bool { return n.Told.From == b.From })
		x, e := beacon.Note(near, b, frame)
		if at >= 0 && near[at].Frame > frame {
			if e != api.ErrOld || len(x) > 0 {
				t.Fatalf("%v after %v: %v", frame, near[at].Frame, e)
			}
			continue
		}
		if at >= 0 {
			want[at] = api.Near{Frame: frame, Told: b}
		} else {
			want = append(want, api.Near{Frame: frame, Told: b})
			slices.SortFunc(want, func(a, b api.Near) int { return a.Told.From - b.Told.From })
		}
		if e != api.OK || !same(x, want) {
			t.Fatalf("%v and %v: %v %v", near, b, x, e)
		}
		c := random(r, 1)
		y, e1 := beacon.Note(x, c, frame+r.IntN(2))
		if told, ok := beacon.Of(y, c.From); e1 == api.OK && (!ok || !same(told, c)) {
			t.Fatalf("%v was noted: %v", c, told)
		}
		for _, n := range x {
			scribble(n.Told)
		}
		if fmt.Sprint(near, b) != before {
			t.Fatal("memory is shared")
		}
		if c.From != b.From {
			p, _ := beacon.Note(near, b, 11)
			p, e1 = beacon.Note(p, c, 12)
			q, _ := beacon.Note(near, c, 12)
			q, e2 := beacon.Note(q, b, 11)
			if e1 != api.OK || e2 != api.OK || !same(p, q) {
				t.Fatal("the order matters")
			}
		}
	}
	good := []api.Near{heard(3, 5)}
	for _, frame := range []int{-1, 1000000001, math.MaxInt, math.MinInt} {
		if x, e := beacon.Note(good, api.Beacon{From: 4}, frame); e != api.ErrArg || len(x) > 0 {
			t.Errorf("in %d: %v", frame, e)
		}
		if x, e := beacon.Note([]api.Near{heard(3, 5), {Frame: frame, Told: api.Beacon{From: 9}}}, api.Beacon{From: 4}, 5); e != api.ErrArg || len(x) > 0 {
			t.Errorf("heard in %d: %v", frame, e)
		}
	}
	for _, near := range [][]api.Near{{heard(-1, 5)}, {heard(60, 5)}, {heard(3, 5), heard(3, 5)}, {heard(4, 5), heard(3, 5)}, {heard(math.MinInt, 5)}, {heard(3, 5), heard(math.MaxInt, 5)}} {
		if x, e := beacon.Note(near, api.Beacon{From: 3}, 4); e != api.ErrArg || len(x) > 0 {
			t.Errorf("%v: %v", near, e)
		}
	}
	odd := []api.Near{{Frame: 1000000000, Told: api.Beacon{From: 0, Hops: -99, Got: []int{-5}}}, heard(59, 0)} // what was told before may be anything
	if x, e := beacon.Note(odd, api.Beacon{From: 5}, 1000000000); e != api.OK || len(x) != 3 {
		t.Errorf("%v %v", x, e)
	}
	if x, e := beacon.Note(good, api.Beacon{From: 3}, 4); e != api.ErrOld || len(x) > 0 {
		t.Errorf("%v %v", x, e)
	}
	if x, e := beacon.Note(good, api.Beacon{From: 3, ASN: 7}, 5); e != api.OK || x[0].Told.ASN != 7 {
		t.Errorf("%v %v", x, e)
	}
}

// scribble changes all the memory of a beacon.
func scribble(b api.Beacon) {
	for i := range b.Uses {
		b.Uses[i].Stamp = -7
	}
	for i := range b.Grants {
		b.Grants[i].Stamp = -7
	}
	for i := range b.Asks {
		b.Asks[i].Peer = -7
	}
	for i := range b.Below {
		b.Below[i].Seq = -7
	}
	for i := range b.Words {
		b.Words[i].Key = -7
	}
	for i := range b.Mail {
		b.Mail[i].Key = -7
	}
	for i := range b.Got {
		b.Got[i] = -7
	}
	for i := range b.Block.Data {
		b.Block.Data[i]++
	}
	for i := range b.Block.Proof {
		b.Block.Proof[i]++
	}
}

// P40.1: AN4 and AN5; P40.7 (expiring).
func TestExpire(t *testing.T) {
	near := []api.Near{heard(1, 4), heard(2, 7), heard(3, 8)}
	for _, x := range []struct {
		frame int
		want  []api.Near
	}{
		{8, near[1:]}, {7, near}, {0, near}, {10, near[1:]}, {11, near[2:]}, {12, nil}, {1000000000, nil}, {-1, near}, {1000000001, near}, {math.MaxInt, near}, {math.MinInt, near},
	} {
		if y := beacon.Expire(near, x.frame); !same(y, x.want) {
			t.Errorf("in %d: %v", x.frame, y)
		}
	}
	wild := []api.Near{heard(-5, math.MinInt), heard(-5, math.MaxInt), heard(99, 3)}
	if y := beacon.Expire(wild, 5); !same(y, wild[1:]) {
		t.Errorf("%v", y)
	}
	for _, x := range []struct {
		peer, frame int
		ok          bool
	}{{-5, math.MinInt, true}, {99, 3, true}, {0, 0, false}, {math.MaxInt, 0, false}} {
		if b, ok := beacon.Of(wild, x.peer); ok != x.ok || ok && (b.From != x.peer || b.Fresh != x.frame) || !ok && !same(b, api.Beacon{}) {
			t.Errorf("of %d: %v %v", x.peer, b, ok)
		}
	}
	r := rand.New(rand.NewPCG(40, 3))
	for range 300 {
		var l []api.Near
		for range r.IntN(6) {
			l = append(l, api.Near{Frame: r.IntN(12), Told: random(r, 2)})
		}
		before := fmt.Sprint(l)
		a, b := r.IntN(14), r.IntN(14)
		x := beacon.Expire(l, a)
		if y := beacon.Expire(x, b); !same(y, beacon.Expire(l, max(a, b))) {
			t.Fatalf("%v in %d and %d: %v", l, a, b, y)
		}
		var want []api.Near
		for _, n := range l {
			if n.Frame >= a-3 {
				want = append(want, n)
			}
		}
		if !same(x, want) {
			t.Fatalf("%v in %d: %v", l, a, x)
		}
		for _, n := range x {
			scribble(n.Told)
			if b, ok := beacon.Of(l, n.Told.From); ok {
				scribble(b)
			}
		}
		for _, n := range beacon.Expire(l, -1) {
			scribble(n.Told)
		}
		if fmt.Sprint(l) != before {
			t.Fatal("memory is shared")
		}
	}
}
