package random_test

import (
	"math"
	"math/bits"
	"math/rand/v2"
	"slices"
	"testing"

	"slotmesh/random"
)

// next is the mixing, step by step.
func next(s uint64) uint64 {
	x := s + 11400714819323198485
	_, x = bits.Mul64(x^x/1073741824, 13787848793156543929)
	_, x = bits.Mul64(x^x/134217728, 10723151780598845931)
	return x ^ x/2147483648
}

func states(r *rand.Rand) uint64 {
	return []uint64{0, 1, math.MaxUint64, 1 << 63, r.Uint64()}[r.IntN(5)]
}

// P6.1: F1.
func TestNext(t *testing.T) {
	if random.Next(0) != 16294208416658607535 || random.Next(1) != 10451216379200822465 {
		t.Errorf("%d %d", random.Next(0), random.Next(1))
	}
	r := rand.New(rand.NewPCG(6, 1))
	for range 5000 {
		if s := states(r); random.Next(s) != next(s) {
			t.Fatalf("Next(%d) = %d", s, random.Next(s))
		}
	}
}

// P6.1: F2; P6.3 (range).
func TestBelow(t *testing.T) {
	if random.Below(0, 10) != 3 || random.Below(1, 10) != 6 || random.Below(0, 1) != 0 {
		t.Error("the examples")
	}
	for _, n := range []int{0, -1, 1000000001, math.MaxInt, math.MinInt, 1 << 32} {
		if x := random.Below(0, n); x != 0 {
			t.Errorf("Below(0, %d) = %d", n, x)
		}
	}
	r := rand.New(rand.NewPCG(6, 2))
	for range 5000 {
		s, n := states(r), 1+r.IntN([]int{10, 1000, 1000000000}[r.IntN(3)])
		x := random.Below(s, n)
		if x != int(next(s)>>32%uint64(n)) || x < 0 || x >= n {
			t.Fatalf("Below(%d, %d) = %d", s, n, x)
		}
		if k := 1 + r.IntN(1000000000/n); random.Below(s, n*k)%n != x {
			t.Fatalf("Below(%d, %d) and %d times as many", s, n, k)
		}
	}
	if random.Below(0, 1000000000) != 3793791033%1000000000 {
		t.Error("the greatest n")
	}
}

// P6.1: F3; P6.4 (permutations).
func TestPerm(t *testing.T) {
	if !slices.Equal(random.Perm(0, 2), []int{0, 1}) || !slices.Equal(random.Perm(1, 2), []int{1, 0}) || !slices.Equal(random.Perm(5, 1), []int{0}) {
		t.Error("the examples")
	}
	for _, n := range []int{0, -1, 1001, math.MaxInt, math.MinInt} {
		if p := random.Perm(3, n); len(p) > 0 {
			t.Errorf("Perm(3, %d): %d elements", n, len(p))
		}
	}
	r := rand.New(rand.NewPCG(6, 3))
	for i := range 300 {
		s, n := states(r), 1+r.IntN(60)
		if i == 0 {
			n = 1000
		}
		want, x := make([]int, n), s
		for k := range want {
			want[k] = k
		}
		for k := n - 1; k > 0; k-- {
			x = next(x)
			m := int(x >> 32 % uint64(k+1))
			want[k], want[m] = want[m], want[k]
		}
		p := random.Perm(s, n)
		if !slices.Equal(p, want) {
			t.Fatalf("Perm(%d, %d): %v", s, n, p)
		}
		slices.Sort(p)
		for k := range p {
			if p[k] != k {
				t.Fatalf("Perm(%d, %d) lacks %d", s, n, k)
			}
		}
	}
}

// P6.5 (steps).
func TestSteps(t *testing.T) {
	r := rand.New(rand.NewPCG(6, 4))
	for range 300 {
		s, n := states(r), 2+r.IntN(50)
		p := random.Perm(s, n)
		last := p[n-1]
		rest := random.Perm(random.Next(s), n-1)
		for i := range rest {
			if rest[i] == last {
				rest[i] = n - 1
			}
		}
		if last != random.Below(s, n) || !slices.Equal(p[:n-1], rest) {
			t.Fatalf("Perm(%d, %d): %v", s, n, p)
		}
	}
}

// P6.2 (different states).
func TestDifferent(t *testing.T) {
	r := rand.New(rand.NewPCG(6, 5))
	for range 500 {
		s := states(r)
		seen := map[uint64]bool{random.Next(s): true}
		for i := range 64 {
			seen[random.Next(s^1<<i)] = true
		}
		if len(seen) != 65 {
			t.Fatalf("near %d: %d next states of 65", s, len(seen))
		}
	}
}

// P6.1: F4; P6.6 (sets).
func TestMask(t *testing.T) {
	if random.Mask(0, 3) != 5 || random.Mask(1, 3) != 1 || random.Mask(9, 1) != 1 {
		t.Error("the examples")
	}
	for _, n := range []int{0, -1, 17, 64, math.MaxInt, math.MinInt} {
		if m := random.Mask(3, n); m != 0 {
			t.Errorf("Mask(3, %d) = %d", n, m)
		}
	}
	r := rand.New(rand.NewPCG(6, 6))
	for range 3000 {
		s, n := states(r), 1+r.IntN(16)
		m := random.Mask(s, n)
		if m != 1+int(next(s)>>32%uint64(1<<n-1)) || m != 1+random.Below(s, 1<<n-1) || m < 1 || m > 1<<n-1 {
			t.Fatalf("Mask(%d, %d) = %d", s, n, m)
		}
	}
}
