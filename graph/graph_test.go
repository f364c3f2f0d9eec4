package graph_test

import (
	"fmt"
	"math"
	"math/rand/v2"
	"slices"
	"testing"

	"slotmesh/api"
	"slotmesh/graph"
)

// table returns who hears whom for some neighbours.
func table(n int, pairs ...[2]int) [][]bool {
	h := make([][]bool, n)
	for i := range h {
		h[i] = make([]bool, n)
	}
	for _, p := range pairs {
		h[p[0]][p[1]], h[p[1]][p[0]] = true, true
	}
	return h
}

func random(r *rand.Rand, n, density int) [][]bool {
	h := table(n)
	for i := range n {
		for k := range i {
			if r.IntN(100) < density {
				h[i][k], h[k][i] = true, true
			}
		}
	}
	return h
}

func parents(r *rand.Rand, n int) []int {
	l := make([]int, n)
	for i := range l {
		l[i] = []int{-1, n, math.MaxInt, math.MinInt, r.IntN(n), r.IntN(n), r.IntN(n), r.IntN(n)}[r.IntN(8)]
	}
	return l
}

// way returns the nodes on the way of a node, in order, until one would come again.
func way(parents []int, node int) []int {
	var l []int
	for node >= 0 && node < len(parents) && !slices.Contains(l, node) {
		l = append(l, node)
		node = parents[node]
	}
	return l
}

// P22.1: V1; P22.2 (loops).
func TestLoop(t *testing.T) {
	for _, x := range []struct{ parents, want []int }{
		{[]int{-1, 0, 3, 4, 2, 2}, []int{2, 3, 4}}, {[]int{0}, []int{0}}, {[]int{1, 0}, []int{0, 1}}, {[]int{1, 2}, nil}, {nil, nil}, {[]int{-1}, nil}, {[]int{1, 1}, []int{1}},
	} {
		if l := graph.Loop(x.parents); !slices.Equal(l, x.want) {
			t.Errorf("%v: %v", x.parents, l)
		}
	}
	ring := make([]int, 61)
	for i := range ring {
		ring[i] = (i + 1) % 60
	}
	if l := graph.Loop(ring[:60]); len(l) != 60 || l[0] != 0 || l[59] != 59 {
		t.Errorf("a ring of 60: %v", l)
	}
	if l := graph.Loop(ring); len(l) > 0 {
		t.Errorf("61 parents: %v", l)
	}
	r := rand.New(rand.NewPCG(22, 1))
	for range 3000 {
		p := parents(r, 1+r.IntN(12))
		var want []int
		for i := range p {
			w := way(p, i)
			if p[w[len(w)-1]] == i {
				want = append(want, i)
			}
		}
		l := graph.Loop(p)
		if !slices.Equal(l, want) {
			t.Fatalf("%v: %v, want %v", p, l, want)
		}
		for _, i := range l {
			if !slices.Contains(l, p[i]) {
				t.Fatalf("%v: the parent of %d", p, i)
			}
		}
	}
}

// P22.1: V4; P22.6 (reaching).
func TestReaches(t *testing.T) {
	if x := graph.Reaches([]int{-1, 0, 3, 4, 2, 2}, 0); fmt.Sprint(x) != "[true true false false false false]" {
		t.Errorf("%v", x)
	}
	if x := graph.Reaches([]int{1, 2, 0, 2}, 0); fmt.Sprint(x) != "[true true true true]" {
		t.Errorf("%v", x)
	}
	for _, root := range []int{-1, 3, math.MaxInt, math.MinInt} {
		if x := graph.Reaches([]int{-1, 3, math.MaxInt}, root); fmt.Sprint(x) != "[false false false]" {
			t.Errorf("to %d: %v", root, x)
		}
	}
	chain := make([]int, 61)
	for i := range chain {
		chain[i] = i - 1
	}
	if x := graph.Reaches(chain[:60], 0); len(x) != 60 || slices.Contains(x, false) {
		t.Errorf("a chain of 60: %v", x)
	}
	if x := graph.Reaches(chain, 0); len(x) > 0 {
		t.Errorf("61 parents: %v", x)
	}
	if x := graph.Reaches(nil, 0); len(x) > 0 {
		t.Errorf("nobody: %v", x)
	}
	r := rand.New(rand.NewPCG(22, 2))
	for range 3000 {
		n := 1 + r.IntN(12)
		p, root := parents(r, n), r.IntN(n)
		x := graph.Reaches(p, root)
		loop := graph.Loop(p)
		for i := range p {
			if len(x) != n || x[i] != slices.Contains(way(p, i), root) {
				t.Fatalf("%v: from %d to %d: %v", p, i, root, x)
			}
			up := p[i] >= 0 && p[i] < n && x[p[i]]
			if x[i] != (i == root || up) || x[i] && slices.Contains(loop, i) && !slices.Contains(loop, root) {
				t.Fatalf("%v: from %d to %d: %v", p, i, root, x)
			}
		}
	}
}

// P22.3 (no loops).
func TestNoLoops(t *testing.T) {
	r := rand.New(rand.NewPCG(22, 3))
	for range 500 {
		n := 1 + r.IntN(15)
		height, p := make([]int, n), make([]int, n)
		for i := range n {
			height[i] = r.IntN(5)
		}
		for i := range n {
			if p[i] = r.IntN(n); height[p[i]] >= height[i] {
				p[i] = -1
			}
		}
		if l := graph.Loop(p); len(l) > 0 {
			t.Fatalf("%v: %v", p, l)
		}
		for i := range n {
			top := false
			for k := range n {
				top = top || p[k] < 0 && graph.Reaches(p, k)[i]
			}
			if !top {
				t.Fatalf("%v: %d reaches no top", p, i)
			}
		}
	}
}

// distances are the depths by relaxing all pairs.
func distances(h [][]bool, root int) []int {
	d := make([]int, len(h))
	for i := range d {
		d[i] = -1
	}
	d[root] = 0
	for range h {
		for i := range h {
			for k := range h {
				if h[i][k] && d[i] >= 0 && (d[k] < 0 || d[k] > d[i]+1) {
					d[k] = d[i] + 1
				}
			}
		}
	}
	return d
}

// P22.1: V2; P22.4 (depths) and P22.7 (trees).
func TestDepths(t *testing.T) {
	h := table(5, [2]int{0, 1}, [2]int{1, 2}, [2]int{3, 4})
	if d, e := graph.Depths(h, 0); e != api.OK || !slices.Equal(d, []int{0, 1, 2, -1, -1}) {
		t.Errorf("%v %v", d, e)
	}
	r := rand.New(rand.NewPCG(22, 4))
	for range 500 {
		n := 1 + r.IntN(20)
		h, root := random(r, n, 5+r.IntN(30)), r.IntN(n)
		d, e := graph.Depths(h, root)
		if e != api.OK || !slices.Equal(d, distances(h, root)) {
			t.Fatalf("%v from %d: %v %v", h, root, d, e)
		}
		p := make([]int, n)
		for i := range n {
			p[i] = -1
			for k := range n {
				if h[i][k] && d[i] > 0 && d[k] == d[i]-1 {
					p[i] = k
				}
			}
			if d[i] > 0 && p[i] < 0 {
				t.Fatalf("%v from %d: %v", h, root, d)
			}
		}
		if l := graph.Loop(p); len(l) > 0 {
			t.Fatalf("%v: %v", p, l)
		}
		for i, x := range graph.Reaches(p, root) {
			if x != (d[i] >= 0) {
				t.Fatalf("%v: %d", p, i)
			}
		}
	}
	full := table(60)
	for i := range full {
		for k := range full {
			full[i][k] = i != k
		}
	}
	if d, e := graph.Depths(full, 59); e != api.OK || d[0] != 1 || d[59] != 0 {
		t.Errorf("60 nodes: %v %v", d, e)
	}
}

// P22.1: V3; P22.5 (islands).
func TestIslands(t *testing.T) {
	h := table(5, [2]int{0, 1}, [2]int{1, 2}, [2]int{3, 4})
	if x, e := graph.Islands(h); e != api.OK || !slices.Equal(x, []int{0, 0, 0, 3, 3}) {
		t.Errorf("%v %v", x, e)
	}
	if x, e := graph.Islands(nil); e != api.OK || len(x) > 0 {
		t.Errorf("nobody: %v %v", x, e)
	}
	r := rand.New(rand.NewPCG(22, 5))
	for range 300 {
		n := 1 + r.IntN(20)
		h := random(r, n, 2+r.IntN(15))
		x, e := graph.Islands(h)
		if e != api.OK || len(x) != n {
			t.Fatalf("%v: %v %v", h, x, e)
		}
		for i := range n {
			d, _ := graph.Depths(h, i)
			least := -1
			for k := range n {
				if (d[k] >= 0) != (x[i] == x[k]) {
					t.Fatalf("%v: %v, %d and %d", h, x, i, k)
				}
				if d[k] >= 0 && least < 0 {
					least = k
				}
			}
			if x[i] != least {
				t.Fatalf("%v: %v at %d", h, x, i)
			}
		}
	}
}

// P22.1: what is not valid.
func TestErrors(t *testing.T) {
	good := table(3, [2]int{0, 1})
	for _, root := range []int{-1, 3, math.MaxInt, math.MinInt} {
		if d, e := graph.Depths(good, root); e != api.ErrArg || len(d) > 0 {
			t.Errorf("from %d: %v %v", root, d, e)
		}
	}
	if d, e := graph.Depths(nil, 0); e != api.ErrArg || len(d) > 0 {
		t.Errorf("nobody: %v %v", d, e)
	}
	for _, h := range [][][]bool{table(61), {{true}}, {{false, true}, {false, false}}, {{false, false}, {true, false}}, {{false, true}, {true}}, {{false}, {false, false}}, {{false, false, false}, {false, false}}, {{false, false}, {false, true}}, {nil}} {
		if d, e := graph.Depths(h, 0); e != api.ErrArg || len(d) > 0 {
			t.Errorf("%v: %v %v", h, d, e)
		}
		if x, e := graph.Islands(h); e != api.ErrArg || len(x) > 0 {
			t.Errorf("%v: %v %v", h, x, e)
		}
	}
}
