package wire_test

import (
	"bytes"
	"fmt"
	"math"
	"math/rand/v2"
	"slices"
	"testing"

	"slotmesh/api"
	"slotmesh/wire"
)

const most = 10000000000000

// number writes a number by its definition.
func number(n int) []byte {
	z := 2 * n
	if n < 0 {
		z = -2*n - 1
	}
	b := []byte{byte(z % 128)}
	for z /= 128; z > 0; z /= 128 {
		b[len(b)-1] += 128
		b = append(b, byte(z%128))
	}
	return b
}

var borders = []int{0, 1, -1, 63, 64, -64, -65, 8191, 8192, -8192, -8193, 1 << 20, 1<<41 - 1, 1 << 41, -1 << 41, -1<<41 - 1, most, -most, most - 1}

func some(r *rand.Rand) int {
	if r.IntN(3) == 0 {
		return borders[r.IntN(len(borders))]
	}
	n := int(r.Uint64() >> (20 + r.IntN(44)))
	return max(-most, min(most, n-n/2*(r.IntN(2)*4)))
}

func junk(r *rand.Rand, n int) []byte {
	b := make([]byte, r.IntN(n+1))
	for i := range b {
		b[i] = byte(r.Uint32())
	}
	return b
}

// P4.1: D1.
func TestPutNumber(t *testing.T) {
	for _, x := range []struct {
		n    int
		want []byte
	}{{0, []byte{0}}, {-1, []byte{1}}, {1, []byte{2}}, {63, []byte{126}}, {-64, []byte{127}}, {64, []byte{128, 1}}, {300, []byte{216, 4}}} {
		if b, e := wire.PutNumber([]byte{9}, x.n); e != api.OK || !bytes.Equal(b, append([]byte{9}, x.want...)) {
			t.Errorf("%d: %v %v", x.n, b, e)
		}
	}
	for _, n := range []int{most + 1, -most - 1, math.MaxInt, math.MinInt, math.MinInt + 1, math.MaxInt/2 + 1} {
		if b, e := wire.PutNumber([]byte{1, 2}, n); e != api.ErrRange || len(b) > 0 {
			t.Errorf("%d: %v %v", n, b, e)
		}
	}
	r := rand.New(rand.NewPCG(4, 1))
	for range 5000 {
		n, before := some(r), junk(r, 5)
		if b, e := wire.PutNumber(before, n); e != api.OK || !bytes.Equal(b, slices.Concat(before, number(n))) {
			t.Fatalf("%d: %v %v", n, b, e)
		}
	}
}

// P4.1: D2, in the order of its errors.
func TestNumber(t *testing.T) {
	for _, x := range []struct {
		b       []byte
		at      int
		n, next int
		e       api.Errno
	}{
		{[]byte{216, 4}, 0, 300, 2, api.OK},
		{[]byte{7, 216, 4, 9}, 1, 300, 3, api.OK},
		{[]byte{0}, 0, 0, 1, api.OK},
		{[]byte{1}, 1, 0, 0, api.ErrShort},
		{nil, 0, 0, 0, api.ErrShort},
		{[]byte{1}, 2, 0, 0, api.ErrArg},
		{[]byte{1}, -1, 0, 0, api.ErrArg},
		{[]byte{1}, math.MaxInt, 0, 0, api.ErrArg},
		{[]byte{1}, math.MinInt, 0, 0, api.ErrArg},
		{[]byte{128, 0}, 0, 0, 0, api.ErrRange},
		{[]byte{255, 255, 0, 7}, 0, 0, 0, api.ErrRange},
		{[]byte{128}, 0, 0, 0, api.ErrShort},
		{[]byte{128, 128, 128, 128, 128, 128}, 0, 0, 0, api.ErrShort},
		{[]byte{128, 128, 128, 128, 128, 128, 128}, 0, 0, 0, api.ErrRange},
		{[]byte{255, 255, 255, 255, 255, 255, 255, 255}, 0, 0, 0, api.ErrRange},
		{[]byte{128, 128, 128, 128, 128, 128, 127}, 0, 0, 0, api.ErrRange},
		{[]byte{128, 128, 128, 128, 128, 128, 0}, 0, 0, 0, api.ErrRange},
		{[]byte{128, 128, 128, 128, 128, 128, 4}, 0, 1 << 43, 7, api.OK},
		{number(most), 0, most, len(number(most)), api.OK},
		{number(-most), 0, -most, len(number(-most)), api.OK},
		{number(most + 1), 0, 0, 0, api.ErrRange},
		{number(-most - 1), 0, 0, 0, api.ErrRange},
	} {
		if n, next, e := wire.Number(x.b, x.at); n != x.n || next != x.next || e != x.e {
			t.Errorf("%v at %d: %d %d %v", x.b, x.at, n, next, e)
		}
	}
}

// P4.2 (numbers).
func TestNumbersAgain(t *testing.T) {
	r := rand.New(rand.NewPCG(4, 2))
	for range 5000 {
		n, before, after := some(r), junk(r, 5), junk(r, 5)
		b, _ := wire.PutNumber(before, n)
		size := len(b) - len(before)
		if got, next, e := wire.Number(append(slices.Clone(b), after...), len(before)); got != n || next != len(b) || e != api.OK {
			t.Fatalf("%d: %d %v", n, got, e)
		}
		if size > 7 || (size == 1) != (n >= -64 && n <= 63) {
			t.Fatalf("%d has %d bytes", n, size)
		}
		other := junk(r, 8) // whatever is read as n is written in this way
		if m, next, e := wire.Number(other, 0); e == api.OK && !bytes.Equal(number(m), other[:next]) {
			t.Fatalf("%v is read as %d", other, m)
		}
	}
}

// P4.1: D3 and D4; P4.3 (byte strings).
func TestBytes(t *testing.T) {
	if b, e := wire.PutBytes([]byte{5}, []byte{7, 7, 7}); e != api.OK || !bytes.Equal(b, []byte{5, 6, 7, 7, 7}) {
		t.Errorf("%v %v", b, e)
	}
	for _, n := range []int{0, 1, 63, 64, 3999, 4000} {
		x := bytes.Repeat([]byte{200}, n)
		b, e := wire.PutBytes([]byte{1, 2}, x)
		if e != api.OK || !bytes.Equal(b, slices.Concat([]byte{1, 2}, number(n), x)) {
			t.Errorf("%d bytes: %v", n, e)
		}
		for _, after := range [][]byte{nil, {1}, {255, 255}} {
			if y, next, e := wire.Bytes(append(slices.Clone(b), after...), 2); e != api.OK || next != len(b) || !bytes.Equal(y, x) {
				t.Errorf("%d bytes: %d %v", n, next, e)
			}
		}
		if n > 0 {
			if y, next, e := wire.Bytes(b[:len(b)-1], 2); e != api.ErrShort || next != 0 || len(y) > 0 {
				t.Errorf("%d bytes, one is missing: %v", n, e)
			}
		}
	}
	if b, e := wire.PutBytes([]byte{1}, make([]byte, 4001)); e != api.ErrLimit || len(b) > 0 {
		t.Errorf("4001 bytes: %v", e)
	}
	for _, x := range []struct {
		b  []byte
		at int
		e  api.Errno
	}{
		{number(-1), 0, api.ErrRange},
		{append(number(4001), make([]byte, 4001)...), 0, api.ErrRange},
		{number(most), 0, api.ErrRange},
		{number(4000), 0, api.ErrShort},
		{[]byte{128, 0}, 0, api.ErrRange},
		{[]byte{128}, 0, api.ErrShort},
		{nil, 0, api.ErrShort},
		{nil, 1, api.ErrArg},
		{nil, -1, api.ErrArg},
		{[]byte{4, 1}, 0, api.ErrShort},
	} {
		if y, next, e := wire.Bytes(x.b, x.at); e != x.e || next != 0 || len(y) > 0 {
			t.Errorf("%.10v at %d: %v %d %v", x.b, x.at, y, next, e)
		}
	}
}

// P4.7 (beginnings): nothing that was there is changed, and nothing is shared.
func TestBeginnings(t *testing.T) {
	b := append(make([]byte, 0, 100), 1, 2, 3)
	x, _ := wire.PutNumber(b, 300)
	y, _ := wire.PutNumber(b, -5)
	z, _ := wire.PutBytes(b, []byte{9, 9})
	if !bytes.Equal(x, []byte{1, 2, 3, 216, 4}) || !bytes.Equal(y, []byte{1, 2, 3, 9}) || !bytes.Equal(z, []byte{1, 2, 3, 4, 9, 9}) {
		t.Errorf("%v %v %v", x, y, z)
	}
	x[0], y[0], z[0] = 7, 7, 7
	if !bytes.Equal(b, []byte{1, 2, 3}) {
		t.Errorf("changed to %v", b)
	}
	s, _, _ := wire.Bytes([]byte{4, 1, 2}, 0)
	source := []byte{4, 1, 2}
	s, _, _ = wire.Bytes(source, 0)
	s[0] = 77
	if source[1] != 1 {
		t.Error("Bytes shares memory")
	}
	f, _ := wire.Unpack([]byte{2, 6, 1, 200, 1, 2, 2, 9})
	packed, _ := wire.Pack(f)
	packed[7] = 50
	if f.Body[0] != 9 {
		t.Error("Pack shares memory")
	}
	source = []byte{2, 6, 1, 200, 1, 2, 2, 9}
	f, _ = wire.Unpack(source)
	f.Body[0] = 50
	if source[7] != 9 {
		t.Error("Unpack shares memory")
	}
}

func frame(r *rand.Rand) api.Frame {
	pick := func(n ...int) int { return n[r.IntN(len(n))] }
	return api.Frame{Kind: 1 + r.IntN(4), From: pick(0, 59, r.IntN(60)), To: pick(-1, 0, 59, r.IntN(60)), ASN: pick(0, 1000000000, r.IntN(1000000)), Key: pick(0, 2000000, r.IntN(2000000)), Body: junk(r, pick(0, 1, 100))}
}

func same(a, b any) bool { return fmt.Sprint(a) == fmt.Sprint(b) }

// P4.1: D5 and D6; P4.4 (frames), P4.5 (ends) and P4.6 (two frames).
func TestFrames(t *testing.T) {
	f := api.Frame{Kind: api.FrameBeacon, From: 3, To: -1, ASN: 100, Key: 1, Body: []byte{9}}
	if b, e := wire.Pack(f); e != api.OK || !bytes.Equal(b, []byte{2, 6, 1, 200, 1, 2, 2, 9}) {
		t.Errorf("%v %v", b, e)
	}
	r := rand.New(rand.NewPCG(4, 3))
	var last []byte
	var lastFrame api.Frame
	for range 2000 {
		f := frame(r)
		b, e := wire.Pack(f)
		want := slices.Concat(number(f.Kind), number(f.From), number(f.To), number(f.ASN), number(f.Key), number(len(f.Body)), f.Body)
		if e != api.OK || !bytes.Equal(b, want) {
			t.Fatalf("%v: %v %v", f, b, e)
		}
		if g, e := wire.Unpack(b); e != api.OK || !same(f, g) {
			t.Fatalf("%v is read as %v %v", f, g, e)
		}
		if !same(f, lastFrame) && last != nil && (bytes.HasPrefix(b, last) || bytes.HasPrefix(last, b)) {
			t.Fatalf("%v and %v", f, lastFrame)
		}
		for i := range b {
			if g, e := wire.Unpack(b[:i]); e != api.ErrShort || !same(g, api.Frame{}) {
				t.Fatalf("%v: %d bytes: %v", f, i, e)
			}
		}
		for _, after := range [][]byte{{0}, {255}, {1, 2, 3}} {
			if g, e := wire.Unpack(append(slices.Clone(b), after...)); e != api.ErrShort || !same(g, api.Frame{}) {
				t.Fatalf("%v: more bytes: %v", f, e)
			}
		}
		last, lastFrame = b, f
	}
	f.Body = make([]byte, 4000)
	b, e := wire.Pack(f)
	if g, e2 := wire.Unpack(b); e != api.OK || e2 != api.OK || !same(f, g) {
		t.Errorf("4000 bytes: %v %v", e, e2)
	}
}

// P4.1: frames that are not valid.
func TestWrongFrames(t *testing.T) {
	good := [5]int{1, 0, -1, 0, 0}
	for i, limit := range [5][2]int{{1, 4}, {0, 59}, {-1, 59}, {0, 1000000000}, {0, 2000000}} {
		for _, n := range []int{limit[0] - 1, limit[0], limit[1], limit[1] + 1, math.MaxInt, math.MinInt} {
			x := good
			x[i] = n
			f := api.Frame{Kind: x[0], From: x[1], To: x[2], ASN: x[3], Key: x[4]}
			b, e := wire.Pack(f)
			ok := n >= limit[0] && n <= limit[1]
			if ok != (e == api.OK) || !ok && (e != api.ErrArg || len(b) > 0) {
				t.Errorf("%v: %v", f, e)
			}
			if n < -most || n > most {
				continue
			}
			var raw []byte
			for _, m := range x {
				raw = append(raw, number(m)...)
			}
			g, e := wire.Unpack(append(raw, 0))
			if ok && (e != api.OK || !same(f, g)) || !ok && (e != api.ErrRange || !same(g, api.Frame{})) {
				t.Errorf("%v: %v %v", raw, g, e)
			}
			// the first error counts, whatever follows
			if g, e := wire.Unpack(append(raw, 128, 0)); e != api.ErrRange || !same(g, api.Frame{}) {
				t.Errorf("%v: %v %v", raw, g, e)
			}
		}
	}
	if _, e := wire.Pack(api.Frame{Kind: 1, Body: make([]byte, 4001)}); e != api.ErrArg {
		t.Errorf("4001 bytes: %v", e)
	}
	for _, x := range []struct {
		b []byte
		e api.Errno
	}{
		{nil, api.ErrShort}, {[]byte{2, 0}, api.ErrShort}, {[]byte{10, 128}, api.ErrRange}, {[]byte{2, 128, 0}, api.ErrRange},
		{[]byte{2, 0, 0, 0, 0, 1}, api.ErrRange}, {append([]byte{2, 0, 0, 0, 0}, number(4001)...), api.ErrRange}, {[]byte{2, 0, 0, 0, 0, 2}, api.ErrShort},
		{[]byte{2, 0, 0, 0, 0, 0, 0}, api.ErrShort}, {[]byte{2, 128, 128, 128, 128, 128, 128, 128}, api.ErrRange},
	} {
		if g, e := wire.Unpack(x.b); e != x.e || !same(g, api.Frame{}) {
			t.Errorf("%v: %v %v", x.b, g, e)
		}
	}
}
