package journal_test

import (
	"bytes"
	"encoding/binary"
	"math"
	"math/rand/v2"
	"slices"
	"testing"

	"slotmesh/api"
	"slotmesh/digest"
	"slotmesh/flash"
	"slotmesh/journal"
)

func format(t *testing.T, sector, sectors int) api.Flash {
	t.Helper()
	f, e := journal.Format(sector, sectors)
	if e != api.OK {
		t.Fatalf("Format: %v", e)
	}
	return f
}

func read(t *testing.T, f api.Flash) [][]byte {
	t.Helper()
	l, e := journal.Read(f)
	if e != api.OK {
		t.Fatalf("Read: %v", e)
	}
	return l
}

func add(t *testing.T, f api.Flash, data []byte) []api.Flash {
	t.Helper()
	l, e := journal.Append(f, data)
	if e != api.OK {
		t.Fatalf("Append of %d bytes: %v", len(data), e)
	}
	return l
}

func last(l []api.Flash) api.Flash { return l[len(l)-1] }

func same(a, b [][]byte) bool { return slices.EqualFunc(a, b, bytes.Equal) }

func equal(a, b api.Flash) bool { return a.Sector == b.Sector && bytes.Equal(a.Bytes, b.Bytes) }

func junk(r *rand.Rand, n int) []byte {
	b := make([]byte, n)
	for i := range b {
		b[i] = byte(r.Uint32())
	}
	return b
}

// body is a record from its second byte on.
func body(data []byte) []byte {
	b := binary.BigEndian.AppendUint16(nil, uint16(len(data)))
	b = append(b, data...)
	return binary.BigEndian.AppendUint64(b, digest.Sum(b))
}

// change is a memory with the memories on its way.
type change struct {
	f api.Flash
	l []api.Flash
}

func begin(f api.Flash) *change {
	return &change{f, []api.Flash{{Sector: f.Sector, Bytes: slices.Clone(f.Bytes)}}}
}

func (c *change) set(at int, b byte) {
	next := api.Flash{Sector: c.f.Sector, Bytes: slices.Clone(last(c.l).Bytes)}
	next.Bytes[at] = b
	c.l = append(c.l, next)
}

func (c *change) program(at int, data ...byte) {
	for i, x := range data {
		c.set(at+i, last(c.l).Bytes[at+i]&x)
	}
}

func (c *change) record(at int, data []byte) int {
	c.program(at+1, body(data)...)
	c.program(at, 90)
	return at + len(data) + 11
}

// rewrite writes records into the area that begins at an address.
func (c *change) rewrite(area, generation int, records [][]byte) int {
	for i := range len(c.f.Bytes) / 2 {
		c.set(area+i, 255)
	}
	at := area + 5
	for _, x := range records {
		at = c.record(at, x)
	}
	c.program(area+1, binary.BigEndian.AppendUint32(nil, uint32(generation))...)
	c.program(area, 90)
	return at
}

// P24.1: X1, and the errors of X2.
func TestFormat(t *testing.T) {
	for _, x := range []struct {
		sector, sectors int
		ok              bool
	}{
		{32, 2, true}, {16, 2, true}, {15, 2, false}, {8, 4, true}, {1, 32, true}, {1, 30, false}, {32, 3, false}, {32, 1, false}, {512, 4, true}, {1024, 16, true}, {1024, 18, false}, {1025, 2, false},
		{0, 2, false}, {2, 0, false}, {-1, -2, false}, {math.MaxInt, 2, false}, {2, math.MaxInt, false}, {math.MinInt, 2, false}, {17, 2, true}, {6, 6, true}, {5, 6, false},
	} {
		f, e := journal.Format(x.sector, x.sectors)
		if !x.ok {
			if e != api.ErrArg || f.Sector != 0 || len(f.Bytes) > 0 {
				t.Errorf("%v: %v", x, e)
			}
			continue
		}
		want := bytes.Repeat([]byte{255}, x.sector*x.sectors)
		copy(want, []byte{90, 0, 0, 0, 0})
		if e != api.OK || f.Sector != x.sector || !bytes.Equal(f.Bytes, want) || len(read(t, f)) != 0 {
			t.Errorf("%v: %v", x, e)
		}
	}
	for _, x := range []struct {
		f api.Flash
		e api.Errno
	}{
		{api.Flash{}, api.ErrArg}, {api.Flash{Sector: 32, Bytes: make([]byte, 96)}, api.ErrArg}, {api.Flash{Sector: 15, Bytes: make([]byte, 30)}, api.ErrArg}, {api.Flash{Sector: 32, Bytes: make([]byte, 63)}, api.ErrArg},
		{api.Flash{Sector: 32, Bytes: make([]byte, 64)}, api.ErrNone}, {api.Flash{Sector: -1, Bytes: make([]byte, 64)}, api.ErrArg},
	} {
		l, e := journal.Read(x.f)
		a, e2 := journal.Append(x.f, make([]byte, 99))
		c, e3 := journal.Compact(x.f, [][]byte{make([]byte, 99)})
		if e != x.e || e2 != x.e || e3 != x.e || len(l)+len(a)+len(c) > 0 {
			t.Errorf("%v: %v %v %v", x.f, e, e2, e3)
		}
	}
}

// P24.1: X2: which area is in use.
func TestAreas(t *testing.T) {
	for _, x := range []struct {
		first, second []byte // mark and generation
		use           int    // -1: none
	}{
		{[]byte{90, 0, 0, 0, 5}, []byte{90, 0, 0, 0, 4}, 0}, {[]byte{90, 0, 0, 0, 5}, []byte{90, 0, 0, 0, 5}, 0}, {[]byte{90, 0, 0, 0, 5}, []byte{90, 0, 0, 0, 6}, 1}, {[]byte{90, 0, 0, 1, 5}, []byte{90, 0, 0, 0, 6}, 0},
		{[]byte{90, 255, 0, 0, 0}, []byte{90, 127, 255, 255, 255}, 0}, {[]byte{91, 9, 0, 0, 5}, []byte{90, 0, 0, 0, 4}, 1}, {[]byte{90, 0, 0, 0, 0}, []byte{255, 255, 255, 255, 255}, 0}, {[]byte{255, 255, 255, 255, 255}, []byte{90, 0, 0, 0, 0}, 1},
		{[]byte{255, 90, 90, 90, 90}, []byte{0, 90, 90, 90, 90}, -1}, {[]byte{90, 0, 0, 2, 0}, []byte{90, 0, 1, 0, 0}, 1},
	} {
		f := format(t, 32, 2)
		copy(f.Bytes, x.first)
		copy(f.Bytes[32:], x.second)
		for i := range 2 {
			f.Bytes[32*i+5] = 90
			copy(f.Bytes[32*i+6:], body([]byte{byte(i)}))
		}
		l, e := journal.Read(f)
		if x.use < 0 && e != api.ErrNone || x.use >= 0 && (e != api.OK || !same(l, [][]byte{{byte(x.use)}})) {
			t.Errorf("%v: %v %v", x, l, e)
		}
	}
}

// P24.1: X2: damage; P24.7 (damage).
func TestDamage(t *testing.T) {
	f := last(add(t, last(add(t, format(t, 64, 2), []byte{1, 2, 3})), []byte{4}))
	if !same(read(t, f), [][]byte{{1, 2, 3}, {4}}) {
		t.Fatalf("%v", f)
	}
	for at := 5; at < 31; at++ {
		for _, x := range []byte{1, 16, 255} {
			g := api.Flash{Sector: 64, Bytes: slices.Clone(f.Bytes)}
			g.Bytes[at] ^= x
			l, e := journal.Read(g)
			if g.Bytes[at] == 255 && (at == 5 || at == 19) {
				continue // an erased byte ends the list
			}
			if e != api.ErrSum || len(l) > 0 {
				t.Errorf("the byte %d: %v %v", at, l, e)
			}
			if _, e := journal.Append(g, make([]byte, 99)); e != api.ErrSum {
				t.Errorf("Append, the byte %d: %v", at, e)
			}
			if _, e := journal.Compact(g, [][]byte{make([]byte, 99)}); e != api.ErrSum {
				t.Errorf("Compact, the byte %d: %v", at, e)
			}
		}
	}
	for _, x := range []byte{0, 1, 89, 91, 254} {
		f.Bytes[31] = x
		if _, e := journal.Read(f); e != api.ErrSum {
			t.Errorf("the byte %d at the end: %v", x, e)
		}
	}
	f.Bytes[31] = 255
	f.Bytes[32] = 0
	if !same(read(t, f), [][]byte{{1, 2, 3}, {4}}) {
		t.Error("a journal that is not clean")
	}
	for n := range 28 { // records up to the end of the area, and beyond
		g := format(t, 32, 2)
		g.Bytes[5] = 90
		data := make([]byte, n)
		copy(g.Bytes[6:32], body(data))
		want := api.OK
		if n > 16 {
			want = api.ErrSum
		}
		if _, e := journal.Read(g); e != want {
			t.Errorf("a record of %d bytes: %v", n, e)
		}
	}
	for at := 16; at < 32; at++ { // marks near the end
		g := format(t, 32, 2)
		copy(g.Bytes[5:], append([]byte{90}, body(make([]byte, at-16))...))
		if at > 16 {
			g.Bytes[at] = 90
		}
		if _, e := journal.Read(g); at > 16 && e != api.ErrSum {
			t.Errorf("a mark at %d: %v", at, e)
		}
	}
}

// The example of the chapter; P24.1: X3.
func TestAppend(t *testing.T) {
	f := format(t, 32, 2)
	if l := add(t, f, make([]byte, 16)); len(l) != 28 || len(read(t, last(l))) != 1 {
		t.Errorf("%d memories", len(l))
	}
	if l, e := journal.Append(f, make([]byte, 17)); e != api.ErrFull || len(l) > 0 {
		t.Errorf("17 bytes: %v", e)
	}
	if l, e := journal.Append(f, make([]byte, 70000)); e != api.ErrFull || len(l) > 0 {
		t.Errorf("70000 bytes: %v", e)
	}
	l := add(t, f, []byte{1, 2, 3})
	if len(l) != 15 {
		t.Errorf("%d memories", len(l))
	}
	again := add(t, l[4], []byte{4, 5, 6})
	if len(again) != 52 || !same(read(t, last(again)), [][]byte{{4, 5, 6}}) {
		t.Errorf("%d memories", len(again))
	}
	if _, e := journal.Append(last(l), []byte{1, 2, 3}); e != api.ErrFull {
		t.Errorf("the third byte of the second one: %v", e)
	}
	add(t, last(l), []byte{1, 2})
	r := rand.New(rand.NewPCG(24, 1))
	for range 200 {
		sector := []int{8, 20, 64}[r.IntN(3)]
		f := format(t, sector, []int{4, 6}[r.IntN(2)])
		h := len(f.Bytes) / 2
		area, generation, end := 0, 0, 5
		var records [][]byte
		for range 12 {
			data := junk(r, r.IntN(20))
			c := begin(f)
			l, e := journal.Append(f, data)
			if len(data)+11 > h-end {
				if e != api.ErrFull || len(l) > 0 {
					t.Fatalf("%v and %d bytes: %v", f, len(data), e)
				}
				continue
			}
			clean := !slices.ContainsFunc(f.Bytes[area+end:area+h], func(x byte) bool { return x != 255 })
			if !clean {
				area, generation = h-area, generation+1
				c.rewrite(area, generation, records)
			}
			c.record(area+end, data)
			if e != api.OK || !slices.EqualFunc(l, c.l, equal) {
				t.Fatalf("%v and %v: %v", f, data, e)
			}
			if k := r.IntN(len(l)); r.IntN(3) == 0 && k < len(l)-1 {
				f = l[k] // the power goes
				if !clean && !bytes.Equal(f.Bytes[area:area+5], last(l).Bytes[area:area+5]) {
					area, generation = h-area, generation-1
				}
				continue
			}
			f = last(l)
			records = append(records, data)
			end += len(data) + 11
		}
	}
}

// P24.1: X4; P24.5 (rewriting) and P24.6 (room).
func TestCompact(t *testing.T) {
	r := rand.New(rand.NewPCG(24, 2))
	for range 200 {
		f := format(t, []int{8, 20, 64}[r.IntN(3)], 4)
		h := len(f.Bytes) / 2
		area := 0
		for generation := 1; generation < 5; generation++ {
			var keep [][]byte
			size := 0
			for range r.IntN(4) {
				keep = append(keep, junk(r, r.IntN(20)))
				size += len(keep[len(keep)-1]) + 11
			}
			l, e := journal.Compact(f, keep)
			if size > h-5 {
				if e != api.ErrFull || len(l) > 0 {
					t.Fatalf("%d of %d bytes: %v", size, h, e)
				}
				generation--
				continue
			}
			c := begin(f)
			area = h - area
			c.rewrite(area, generation, keep)
			if e != api.OK || !slices.EqualFunc(l, c.l, equal) || !same(read(t, last(l)), keep) {
				t.Fatalf("%v with %v: %v", f, keep, e)
			}
			if slices.ContainsFunc(last(l).Bytes[area+5+size:area+h], func(x byte) bool { return x != 255 }) {
				t.Fatalf("%v with %v is not clean", f, keep)
			}
			f = last(l)
		}
	}
	f := format(t, 16, 4)
	if l, e := journal.Compact(f, [][]byte{make([]byte, 16)}); e != api.OK || len(l) != 33+27+5 {
		t.Errorf("the greatest record: %d memories, %v", len(l), e)
	}
	if l, e := journal.Compact(f, [][]byte{make([]byte, 17)}); e != api.ErrFull || len(l) > 0 {
		t.Errorf("a greater one: %v", e)
	}
	if l, e := journal.Compact(f, [][]byte{make([]byte, 3), make([]byte, 3)}); e != api.ErrFull || len(l) > 0 {
		t.Errorf("two records: %v", e)
	}
	full := last(add(t, f, make([]byte, 14)))
	if _, e := journal.Append(full, nil); e != api.ErrFull {
		t.Errorf("a full journal: %v", e)
	}
	l, e := journal.Compact(full, [][]byte{nil})
	if e != api.OK || len(add(t, last(l), make([]byte, 5))) != 17 {
		t.Errorf("after a rewriting: %v", e)
	}
}

// P24.1: the last generation.
func TestGenerations(t *testing.T) {
	for _, x := range []struct {
		generation []byte
		last       bool
	}{{[]byte{255, 255, 255, 255}, true}, {[]byte{255, 255, 255, 254}, false}, {[]byte{0, 255, 255, 255}, false}, {[]byte{0, 0, 0, 255}, false}} {
		f := format(t, 32, 2)
		copy(f.Bytes[1:], x.generation)
		l := add(t, f, []byte{7})
		torn := l[3] // the length and the data are written
		_, e := journal.Append(torn, []byte{8})
		c, e2 := journal.Compact(last(l), [][]byte{{9}})
		if x.last {
			if e != api.ErrFull || e2 != api.ErrFull || len(c) > 0 {
				t.Errorf("%v: %v %v", x.generation, e, e2)
			}
			continue
		}
		want := binary.BigEndian.AppendUint32(nil, binary.BigEndian.Uint32(x.generation)+1)
		if e != api.OK || e2 != api.OK || !bytes.Equal(last(c).Bytes[33:37], want) || !same(read(t, last(c)), [][]byte{{9}}) {
			t.Errorf("%v: %v %v", x.generation, e, e2)
		}
	}
}

// P24.2 (torn writes) and P24.4 (again).
func TestTornWrites(t *testing.T) {
	r := rand.New(rand.NewPCG(24, 3))
	for range 60 {
		f := format(t, 30, 4)
		var records [][]byte
		for range r.IntN(3) {
			data := junk(r, r.IntN(5))
			f = last(add(t, f, data))
			records = append(records, data)
		}
		data := junk(r, r.IntN(5))
		after := append(slices.Clone(records), data)
		if r.IntN(2) == 0 {
			torn := add(t, f, data)
			f = torn[r.IntN(len(torn)-1)] // so that the next one rewrites, perhaps
		}
		l := add(t, f, data)
		keep := [][]byte{{1}, {2, 3}}
		c, e := journal.Compact(f, keep)
		if e != api.OK {
			t.Fatalf("Compact: %v", e)
		}
		for i, m := range l {
			want := records
			if i == len(l)-1 {
				want = after
			}
			if !same(read(t, m), want) {
				t.Fatalf("Append, step %d of %d: %v", i, len(l), read(t, m))
			}
			if more, e := journal.Append(m, []byte{5}); e != api.OK || !same(read(t, last(more)), append(slices.Clone(want), []byte{5})) {
				t.Fatalf("Append, step %d of %d, and again: %v", i, len(l), e)
			}
		}
		for i, m := range c {
			want := records
			if i == len(c)-1 {
				want = keep
			}
			if !same(read(t, m), want) {
				t.Fatalf("Compact, step %d of %d: %v", i, len(c), read(t, m))
			}
		}
	}
}

// P24.3 (sequence); and no memory is shared.
func TestSequence(t *testing.T) {
	r := rand.New(rand.NewPCG(24, 4))
	for range 200 {
		f := format(t, 100, 2)
		var records [][]byte
		for range 10 {
			data := junk(r, r.IntN(30))
			l, e := journal.Append(f, data)
			if e == api.OK {
				f = last(l)
				records = append(records, data)
			} else if e != api.ErrFull {
				t.Fatalf("%v", e)
			}
			if !same(read(t, f), records) {
				t.Fatalf("%v", read(t, f))
			}
		}
		if !flash.Valid(f) {
			t.Fatal("not valid")
		}
	}
	big := [][]byte{junk(r, 300), junk(r, 256), junk(r, 4000)}
	f := format(t, 1024, 16)
	for _, data := range big {
		f = last(add(t, f, data))
	}
	if !same(read(t, f), big) {
		t.Error("great records")
	}
	f = last(add(t, format(t, 32, 2), []byte{1, 2}))
	before := slices.Clone(f.Bytes)
	read(t, f)[0][0] = 77
	for _, l := range [][]api.Flash{add(t, f, []byte{1}), func() []api.Flash { l, _ := journal.Compact(f, [][]byte{{9}}); return l }()} {
		for i := range l {
			next := slices.Clone(l[(i+1)%len(l)].Bytes)
			l[i].Bytes[0] = 1
			if !bytes.Equal(next, l[(i+1)%len(l)].Bytes) {
				t.Fatal("two memories are one")
			}
		}
	}
	if !bytes.Equal(f.Bytes, before) {
		t.Error("memory is shared")
	}
}
