package boot_test

import (
	"bytes"
	"encoding/binary"
	"math"
	"math/rand/v2"
	"slices"
	"testing"

	"slotmesh/api"
	"slotmesh/boot"
	"slotmesh/digest"
)

const half = 4224

func last(l []api.Flash) api.Flash { return l[len(l)-1] }

func format(t *testing.T, version int, program []byte) api.Flash {
	t.Helper()
	f, e := boot.Format(version, program)
	if e != api.OK {
		t.Fatalf("Format of %d: %v", version, e)
	}
	return f
}

func install(t *testing.T, f api.Flash, version int, program []byte) []api.Flash {
	t.Helper()
	l, e := boot.Install(f, version, program)
	if e != api.OK {
		t.Fatalf("Install of %d: %v", version, e)
	}
	return l
}

func mark(t *testing.T, f api.Flash, version, m int) api.Flash {
	t.Helper()
	l, e := boot.Mark(f, version, m)
	if e != api.OK || len(l) != 2 || !bytes.Equal(l[0].Bytes, f.Bytes) {
		t.Fatalf("Mark %d of %d: %v", m, version, e)
	}
	return l[1]
}

func selects(t *testing.T, f api.Flash, version int, program []byte) {
	t.Helper()
	if v, p, e := boot.Select(f); e != api.OK || v != version || !bytes.Equal(p, program) {
		t.Fatalf("selects %d %.20v %v, want %d %.20v", v, p, e, version, program)
	}
}

func junk(r *rand.Rand, n int) []byte {
	b := make([]byte, n)
	for i := range b {
		b[i] = byte(r.Uint32())
	}
	return b
}

// head are the bytes 0 to 13 of a bank.
func head(version int, program []byte) []byte {
	b := binary.BigEndian.AppendUint32(nil, uint32(version))
	b = binary.BigEndian.AppendUint16(b, uint16(len(program)))
	return binary.BigEndian.AppendUint64(b, digest.Sum(append(slices.Clone(b), program...)))
}

// bank returns the bytes of a bank with a program and marks.
func bank(version int, program []byte, marks ...int) []byte {
	b := bytes.Repeat([]byte{255}, half)
	copy(b, head(version, program))
	b[14] = 80
	for _, m := range marks {
		b[14+m] = 0
	}
	copy(b[32:], program)
	return b
}

func empty() []byte { return bytes.Repeat([]byte{255}, half) }

func memory(first, second []byte) api.Flash {
	return api.Flash{Sector: 128, Bytes: slices.Concat(first, second)}
}

// P38.1: AL1; P38.7 (size).
func TestFormat(t *testing.T) {
	r := rand.New(rand.NewPCG(38, 1))
	for _, n := range []int{0, 1, 2, 300, 4095, 4096} {
		p := junk(r, n)
		f := format(t, 3, p)
		if f.Sector != 128 || !bytes.Equal(f.Bytes, memory(bank(3, p, 1, 2), empty()).Bytes) || boot.Marks(f, 3) != 2 {
			t.Errorf("%d bytes", n)
		}
		selects(t, f, 3, p)
		copy(f.Bytes[half:], junk(r, half))
		f.Bytes[half+14] = 255
		copy(f.Bytes[32+n:half], junk(r, half-32-n))
		selects(t, f, 3, p)
	}
	format(t, 1000000000, nil)
	for _, x := range []struct{ version, size int }{{0, 1}, {-1, 1}, {1000000001, 1}, {1, 4097}, {math.MaxInt, 1}, {math.MinInt, 1}, {1 << 32, 1}} {
		if f, e := boot.Format(x.version, make([]byte, x.size)); e != api.ErrArg || f.Sector != 0 || len(f.Bytes) > 0 {
			t.Errorf("%v: %v", x, e)
		}
	}
}

// The examples of the chapter.
func TestExamples(t *testing.T) {
	f := format(t, 3, []byte("ab"))
	selects(t, f, 3, []byte("ab"))
	if m := boot.Marks(f, 3); m != api.MarkKeep {
		t.Errorf("the mark %d", m)
	}
	l := install(t, f, 5, []byte("c"))
	if len(l) != 17 || boot.Marks(last(l), 5) != 0 {
		t.Errorf("%d memories", len(l))
	}
	selects(t, last(l), 3, []byte("ab"))
	f = mark(t, last(l), 5, api.MarkStart)
	selects(t, f, 5, []byte("c"))
	f = mark(t, f, 5, api.MarkDrop)
	selects(t, f, 3, []byte("ab"))
	if m := boot.Marks(f, 5); m != 3 {
		t.Errorf("the mark %d", m)
	}
	if l, e := boot.Install(f, 4, []byte("d")); e != api.ErrOld || len(l) > 0 {
		t.Errorf("version 4: %v", e)
	}
	if v, p, e := boot.Select(memory(empty(), empty())); e != api.ErrNone || v != 0 || len(p) > 0 {
		t.Errorf("an empty memory: %v", e)
	}
}

// P38.1: AL2 and AL3: which bank is selected.
func TestSelect(t *testing.T) {
	a, b := []byte("first"), []byte("second")
	class := func(marks []int) int {
		if slices.Contains(marks, 3) {
			return 0
		}
		if slices.Contains(marks, 1) {
			return 2
		}
		return 1
	}
	all := [][]int{nil, {1}, {2}, {3}, {1, 2}, {1, 3}, {2, 3}, {1, 2, 3}}
	for _, m := range all {
		for _, n := range all {
			for _, v := range []int{4, 5, 6} {
				f := memory(bank(5, a, m...), bank(v, b, n...))
				want, program := 5, a
				if class(n) > class(m) || class(n) == class(m) && v > 5 {
					want, program = v, b
				}
				selects(t, f, want, program)
				greatest := 0
				for _, x := range m {
					greatest = max(greatest, x)
				}
				if k := boot.Marks(f, 5); k != greatest {
					t.Errorf("the marks %v: %d", m, k)
				}
				if v != 5 && boot.Marks(f, v) != append([]int{0}, n...)[len(n)] {
					t.Errorf("the marks %v: %d", n, boot.Marks(f, v))
				}
				f.Bytes[14] = 0
				selects(t, f, v, b)
			}
		}
	}
	f := memory(bank(5, a), empty())
	for _, v := range []int{4, 6, 0, -1, math.MaxInt} {
		if k := boot.Marks(f, v); k != -1 {
			t.Errorf("the version %d: %d", v, k)
		}
	}
	f.Bytes[16] = 1 // only 0 is a mark
	if boot.Marks(f, 5) != 0 {
		t.Error("a mark that is not 0")
	}
}

// P38.1: what is whole; P38.6 (damage).
func TestDamage(t *testing.T) {
	p := []byte("a program")
	for _, second := range []bool{false, true} {
		for at := range 32 + len(p) {
			f := memory(bank(5, p, 1), empty())
			base := 0
			if second {
				f = memory(empty(), bank(5, p, 1))
				base = half
			}
			f.Bytes[base+at] ^= 4
			_, _, e := boot.Select(f)
			damaged := at < 15 || at >= 32
			if damaged != (e == api.ErrNone) || damaged != (boot.Marks(f, 5) < 0) && at >= 4 {
				t.Errorf("the byte %d: %v", at, e)
			}
		}
	}
	for _, x := range []struct {
		version, size int
		ok            bool
	}{{1, 4096, true}, {1, 4097, false}, {1, 4192, false}, {0, 5, false}, {1000000000, 5, true}, {1000000001, 5, false}, {4294967295, 5, false}} {
		f := memory(bank(x.version, make([]byte, min(x.size, 4192))), empty())
		if _, _, e := boot.Select(f); (e == api.OK) != x.ok {
			t.Errorf("%v: %v", x, e)
		}
	}
	f := memory(bank(5, p), empty())
	f.Bytes[4], f.Bytes[5] = 255, 255
	if _, _, e := boot.Select(f); e != api.ErrNone {
		t.Errorf("a size beyond the bank: %v", e)
	}
}

// P38.1: what is no program memory, and the other errors, in their order.
func TestErrors(t *testing.T) {
	good := format(t, 3, []byte{1})
	big := make([]byte, 4097)
	for _, f := range []api.Flash{{}, {Sector: 64, Bytes: good.Bytes}, {Sector: 128, Bytes: good.Bytes[:half]}, {Sector: 128, Bytes: append(slices.Clone(good.Bytes), make([]byte, 128)...)}, {Sector: 256, Bytes: good.Bytes}, {Sector: 128, Bytes: good.Bytes[:8447]}} {
		v, p, e := boot.Select(f)
		l, e2 := boot.Install(f, 0, big)
		m, e3 := boot.Mark(f, 3, 1)
		if e != api.ErrArg || v != 0 || len(p) > 0 || e2 != api.ErrArg || len(l) > 0 || e3 != api.ErrArg || len(m) > 0 || boot.Marks(f, 3) != -1 {
			t.Errorf("%d bytes, sectors of %d: %v %v %v", len(f.Bytes), f.Sector, e, e2, e3)
		}
	}
	none := memory(empty(), empty())
	refused := func(f api.Flash, version int, program []byte, want api.Errno) {
		t.Helper()
		if l, e := boot.Install(f, version, program); e != want || len(l) > 0 {
			t.Errorf("Install of %d: %v, want %v", version, e, want)
		}
	}
	refused(none, 0, big, api.ErrNone)
	refused(good, 3, big, api.ErrArg)
	for _, v := range []int{0, -1, 1000000001, math.MaxInt, math.MinInt} {
		refused(good, v, nil, api.ErrArg)
	}
	for _, v := range []int{1, 2, 3} {
		refused(good, v, nil, api.ErrOld)
	}
	both := memory(bank(3, nil, 1), bank(9, nil, 3))
	for _, v := range []int{4, 9} {
		refused(both, v, nil, api.ErrOld)
		refused(memory(bank(9, nil, 3), bank(3, nil, 1)), v, nil, api.ErrOld)
	}
	install(t, both, 10, nil)
	install(t, good, 1000000000, make([]byte, 4096))
	for _, x := range []struct {
		f             api.Flash
		version, mark int
		e             api.Errno
	}{{good, 3, 0, api.ErrArg}, {good, 3, 4, api.ErrArg}, {good, 3, -1, api.ErrArg}, {good, 3, math.MaxInt, api.ErrArg}, {good, 4, 0, api.ErrArg}, {good, 4, 1, api.ErrNone}, {good, 0, 1, api.ErrNone}, {none, 3, 3, api.ErrNone}, {good, math.MinInt, 3, api.ErrNone}} {
		if l, e := boot.Mark(x.f, x.version, x.mark); e != x.e || len(l) > 0 {
			t.Errorf("Mark %d of %d: %v", x.mark, x.version, e)
		}
	}
}

// model returns the memories of an installation into the bank that begins at an address.
func model(f api.Flash, base, version int, program []byte) [][]byte {
	now := slices.Clone(f.Bytes)
	l := [][]byte{slices.Clone(now)}
	set := func(at int, b byte) {
		now[at] = b
		l = append(l, slices.Clone(now))
	}
	if now[base+14] != 255 {
		set(base+14, 0)
	}
	for s := base; s < base+half; s += 128 {
		if slices.ContainsFunc(now[s:s+128], func(x byte) bool { return x != 255 }) {
			for i := s; i < s+128; i++ {
				set(i, 255)
			}
		}
	}
	for i, x := range program {
		set(base+32+i, x)
	}
	for i, x := range head(version, program) {
		set(base+i, x)
	}
	set(base+14, 80)
	return l
}

// P38.1: AL4; P38.2 (old or new), P38.4 (again) and P38.8 (one step).
func TestInstall(t *testing.T) {
	r := rand.New(rand.NewPCG(38, 2))
	for round := range 8 {
		old := junk(r, r.IntN(60))
		other := empty()
		switch round % 4 {
		case 1:
			other = bank(2, junk(r, 300), 1, 3)
		case 2:
			copy(other[3000:], junk(r, 5))
			other[14] = 7
		case 3:
			other = bank(4, junk(r, 130))
			other[14] = 255
		}
		f, base := memory(bank(3, old, 1), other), half
		if round >= 4 {
			f, base = memory(other, bank(3, old, 1)), 0
		}
		before := slices.Clone(f.Bytes)
		program := junk(r, r.IntN(200))
		l := install(t, f, 7, program)
		want := model(f, base, 7, program)
		if !slices.EqualFunc(l, want, func(a api.Flash, b []byte) bool { return a.Sector == 128 && bytes.Equal(a.Bytes, b) }) {
			t.Fatalf("round %d: %d memories, want %d", round, len(l), len(want))
		}
		for i, m := range l {
			if i%7 == 0 || i > len(l)-5 {
				selects(t, m, 3, old)
			}
			differ := 0
			for k := range m.Bytes {
				if i > 0 && m.Bytes[k] != l[i-1].Bytes[k] {
					differ++
				}
			}
			if differ > 1 || !bytes.Equal(m.Bytes[half-base:2*half-base], before[half-base:2*half-base]) {
				t.Fatalf("round %d, step %d: %d bytes differ", round, i, differ)
			}
			if (boot.Marks(m, 7) >= 0) != (i == len(l)-1) {
				t.Fatalf("round %d, step %d: whole", round, i)
			}
			if i%40 == 0 && i < len(l)-1 {
				for _, v := range []int{7, 8} {
					again := mark(t, last(install(t, m, v, program)), v, 1)
					selects(t, again, v, program)
				}
			}
		}
		if i := r.IntN(len(l)); true {
			next := slices.Clone(l[(i+1)%len(l)].Bytes)
			l[i].Bytes[base] ^= 1
			if !bytes.Equal(next, l[(i+1)%len(l)].Bytes) || !bytes.Equal(f.Bytes, before) {
				t.Fatal("memory is shared")
			}
			l[0].Bytes[0] = 77
			if !bytes.Equal(f.Bytes, before) {
				t.Fatal("memory is shared")
			}
		}
	}
}

// P38.3 (starting) and P38.5 (marks).
func TestStarting(t *testing.T) {
	r := rand.New(rand.NewPCG(38, 3))
	for round := range 20 {
		old, program := junk(r, r.IntN(50)), junk(r, r.IntN(50))
		f := last(install(t, format(t, 3, old), 7, program))
		for m := api.MarkStart; m <= api.MarkDrop; m++ {
			g := mark(t, f, 7, m)
			if h := mark(t, g, 7, m); !bytes.Equal(g.Bytes, h.Bytes) {
				t.Fatalf("the mark %d again", m)
			}
			want := slices.Clone(f.Bytes)
			want[half+14+m] = 0
			if !bytes.Equal(g.Bytes, want) || boot.Marks(g, 3) != 2 || boot.Marks(g, 7) != m {
				t.Fatalf("the mark %d", m)
			}
			h := mark(t, f, 3, m)
			want = slices.Clone(f.Bytes)
			want[14+m] = 0
			if !bytes.Equal(h.Bytes, want) || boot.Marks(h, 7) != 0 {
				t.Fatalf("the mark %d of the old one", m)
			}
		}
		f = mark(t, f, 7, api.MarkStart)
		selects(t, f, 7, program)
		if round%2 == 0 {
			f = mark(t, f, 7, api.MarkKeep)
		}
		selects(t, mark(t, f, 7, api.MarkDrop), 3, old)
		selects(t, mark(t, mark(t, f, 3, api.MarkDrop), 7, api.MarkDrop), 7, program)
		_, p, _ := boot.Select(f)
		if len(p) > 0 {
			p[0]++
			selects(t, f, 7, program)
		}
	}
	same := memory(bank(5, []byte("a")), bank(5, []byte("b")))
	if g := mark(t, same, 5, 1); g.Bytes[15] != 0 || g.Bytes[half+15] != 255 {
		t.Error("the first bank with the version")
	}
}
