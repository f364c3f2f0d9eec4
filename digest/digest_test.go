package digest_test

import (
	"math/big"
	"math/rand/v2"
	"testing"

	"slotmesh/digest"
)

func junk(r *rand.Rand, n int) []byte {
	b := make([]byte, r.IntN(n+1))
	for i := range b {
		b[i] = byte(r.Uint32())
	}
	return b
}

// step takes a number into a digest, computed by great integers.
func step(x, n uint64) uint64 {
	z := new(big.Int).SetUint64(x ^ n)
	z.Mul(z, big.NewInt(1099511628211))
	return z.And(z, new(big.Int).SetUint64(^uint64(0))).Uint64()
}

// P5.1.
func TestDigests(t *testing.T) {
	if digest.Start() != 0xcbf29ce484222325 {
		t.Errorf("Start: %x", digest.Start())
	}
	for _, x := range []struct {
		b    []byte
		want uint64
	}{{nil, 0xcbf29ce484222325}, {[]byte{97}, 0xaf63dc4c8601ec8c}, {[]byte("foobar"), 0x85944171f73967e8}} {
		if d := digest.Sum(x.b); d != x.want {
			t.Errorf("%v: %x", x.b, d)
		}
	}
	r := rand.New(rand.NewPCG(5, 1))
	for range 1000 {
		s, b := r.Uint64(), junk(r, 50)
		want, sum := s, uint64(14695981039346656037)
		for _, x := range b {
			want, sum = step(want, uint64(x)), step(sum, uint64(x))
		}
		if digest.Add(s, b) != want || digest.Sum(b) != sum {
			t.Fatalf("%x, %v", s, b)
		}
		a, c := r.Uint64(), r.Uint64()
		if digest.Pair(a, c) != step(step(^uint64(14695981039346656037), a), c) {
			t.Fatalf("Pair %x %x", a, c)
		}
	}
	if digest.Add(7, nil) != 7 {
		t.Error("nothing is added")
	}
}

// P5.2 (parts).
func TestParts(t *testing.T) {
	r := rand.New(rand.NewPCG(5, 2))
	for range 500 {
		a, b := junk(r, 20), junk(r, 20)
		if digest.Sum(append(append([]byte{}, a...), b...)) != digest.Add(digest.Sum(a), b) {
			t.Fatalf("%v and %v", a, b)
		}
	}
}

// P5.3 (one byte).
func TestOneByte(t *testing.T) {
	r := rand.New(rand.NewPCG(5, 3))
	for range 500 {
		a := append(junk(r, 20), 5)
		b := append([]byte{}, a...)
		b[r.IntN(len(b))] ^= byte(1 + r.IntN(255))
		if digest.Sum(a) == digest.Sum(b) {
			t.Fatalf("%v and %v", a, b)
		}
	}
}

// P5.4 (states).
func TestStates(t *testing.T) {
	r := rand.New(rand.NewPCG(5, 4))
	for range 500 {
		s, b := r.Uint64(), junk(r, 20)
		for i := range 64 {
			if digest.Add(s, b) == digest.Add(s^1<<i, b) {
				t.Fatalf("%x and the bit %d, %v", s, i, b)
			}
		}
	}
}

// P5.5 (undoing): by the inverse of the odd factor.
func TestUndoing(t *testing.T) {
	inverse := new(big.Int).ModInverse(big.NewInt(1099511628211), new(big.Int).Lsh(big.NewInt(1), 64)).Uint64()
	r := rand.New(rand.NewPCG(5, 5))
	for range 500 {
		a, b := junk(r, 20), junk(r, 20)
		d := digest.Add(digest.Sum(a), b)
		for i := len(b) - 1; i >= 0; i-- {
			d = d*inverse ^ uint64(b[i])
		}
		if d != digest.Sum(a) {
			t.Fatalf("%v and %v", a, b)
		}
	}
}

// P5.6 (pairs).
func TestPairs(t *testing.T) {
	r := rand.New(rand.NewPCG(5, 6))
	for range 500 {
		a, b := r.Uint64(), r.Uint64()
		for i := range 64 {
			if p := digest.Pair(a, b); p == digest.Pair(a^1<<i, b) || p == digest.Pair(a, b^1<<i) {
				t.Fatalf("%x %x, the bit %d", a, b, i)
			}
		}
	}
}

// P5.7 (one byte more).
func TestOneByteMore(t *testing.T) {
	r := rand.New(rand.NewPCG(5, 7))
	for range 200 {
		s := r.Uint64()
		seen, still := map[uint64]bool{}, 0
		for x := range 256 {
			d := digest.Add(s, []byte{byte(x)})
			if d == s {
				still++
			}
			seen[d] = true
		}
		if len(seen) != 256 || still > 1 {
			t.Fatalf("%x: %d digests, %d times the same", s, len(seen), still)
		}
	}
	if digest.Add(0, []byte{0}) != 0 {
		t.Error("the byte 0 leaves the digest 0 as it is")
	}
}
