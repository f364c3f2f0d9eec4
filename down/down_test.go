package down_test

import (
	"fmt"
	"math"
	"math/rand/v2"
	"slices"
	"testing"

	"slotmesh/api"
	"slotmesh/down"
)

func same(a, b any) bool { return fmt.Sprint(a) == fmt.Sprint(b) }

func route(target, next, seq, until int) api.Down {
	return api.Down{Target: target, Next: next, Seq: seq, Until: until}
}

func learn(t *testing.T, l []api.Down, child, seq int, below []api.Down, frame int) []api.Down {
	t.Helper()
	x, e := down.Learn(l, child, seq, below, frame)
	if e != api.OK {
		t.Fatalf("%v from %d %d %v in %d: %v", l, child, seq, below, frame, e)
	}
	return x
}

func some(r *rand.Rand, n int) []api.Down {
	var l []api.Down
	for i := range n {
		if r.IntN(2) == 0 {
			l = append(l, route(i, r.IntN(n), r.IntN(5), r.IntN(20)))
		}
	}
	return l
}

// told is what a child could tell.
func told(r *rand.Rand, n, child int) []api.Down {
	l := some(r, n)
	l = slices.DeleteFunc(l, func(d api.Down) bool { return d.Target == child })
	for i := range l {
		l[i].Next, l[i].Until = r.IntN(99)-50, r.IntN(99)-50
	}
	return l
}

// P21.1: U1; P21.2 (validity).
func TestLearn(t *testing.T) {
	for _, x := range []struct{ before, after []api.Down }{
		{nil, []api.Down{route(4, 4, 7, 13), route(6, 4, 2, 13)}},
		{[]api.Down{route(6, 5, 3, 9)}, []api.Down{route(4, 4, 7, 13), route(6, 5, 3, 9)}},
		{[]api.Down{route(6, 5, 2, 9)}, []api.Down{route(4, 4, 7, 13), route(6, 5, 2, 9)}},
		{[]api.Down{route(6, 5, 1, 9)}, []api.Down{route(4, 4, 7, 13), route(6, 4, 2, 13)}},
		{[]api.Down{route(6, 4, 9, 9)}, []api.Down{route(4, 4, 7, 13), route(6, 4, 2, 13)}},
		{[]api.Down{route(4, 5, 7, 9), route(5, 5, 1, 1)}, []api.Down{route(4, 5, 7, 9), route(5, 5, 1, 1), route(6, 4, 2, 13)}},
	} {
		if y := learn(t, x.before, 4, 7, []api.Down{{Target: 6, Seq: 2}}, 10); !same(y, x.after) {
			t.Errorf("%v: %v", x.before, y)
		}
	}
	r := rand.New(rand.NewPCG(21, 1))
	for range 5000 {
		n := 2 + r.IntN(8)
		l, child, seq, frame := some(r, n), r.IntN(n), r.IntN(5), r.IntN(20)
		below := told(r, n, child)
		before := fmt.Sprint(l, below)
		by := map[int]api.Down{}
		for _, d := range l {
			by[d.Target] = d
		}
		for _, d := range append(slices.Clone(below), api.Down{Target: child, Seq: seq}) {
			if old, ok := by[d.Target]; !ok || old.Next == child || old.Seq < d.Seq {
				by[d.Target] = route(d.Target, child, d.Seq, frame+3)
			}
		}
		var want []api.Down
		for i := range n {
			if d, ok := by[i]; ok {
				want = append(want, d)
			}
		}
		x := learn(t, l, child, seq, below, frame)
		if !same(x, want) {
			t.Fatalf("%v from %d %d %v in %d: %v", l, child, seq, below, frame, x)
		}
		for i := range x {
			x[i].Seq = -1
		}
		if fmt.Sprint(l, below) != before {
			t.Fatal("an argument has changed")
		}
	}
}

// P21.1: what is not valid.
func TestErrors(t *testing.T) {
	good := []api.Down{route(3, 1, 1, 5)}
	learn(t, []api.Down{route(0, 59, 1000000000, 1000000000), route(59, 0, 0, 0)}, 59, 1000000000, []api.Down{{Target: 0, Seq: 1000000000}, {Target: 58}}, 999999997)
	refused := func(l []api.Down, child, seq int, below []api.Down, frame int) {
		t.Helper()
		if x, e := down.Learn(l, child, seq, below, frame); e != api.ErrArg || len(x) > 0 {
			t.Errorf("%v from %d %d %v in %d: %v %v", l, child, seq, below, frame, x, e)
		}
	}
	wild := []int{-1, math.MaxInt, math.MinInt}
	for _, n := range append(wild, 60) {
		refused(good, n, 1, nil, 5)
		refused(good, 1, 1, []api.Down{{Target: n}}, 5)
	}
	for _, n := range append(wild, 1000000001) {
		refused(good, 1, n, nil, 5)
		refused(good, 1, 1, []api.Down{{Target: 4, Seq: n}}, 5)
	}
	for _, n := range append(wild, 999999998, 1000000000) {
		refused(good, 1, 1, nil, n)
	}
	refused(good, 1, 1, []api.Down{{Target: 1}}, 5)
	refused(good, 1, 1, []api.Down{{Target: 4}, {Target: 4}}, 5)
	refused(good, 1, 1, []api.Down{{Target: 5}, {Target: 4}}, 5)
	bad := [][]api.Down{{route(3, 1, 1, 5), route(3, 1, 1, 5)}, {route(3, 1, 1, 5), route(2, 1, 1, 5)}}
	for _, n := range append(wild, 60) {
		bad = append(bad, []api.Down{route(n, 1, 1, 5)}, []api.Down{route(3, n, 1, 5)})
	}
	for _, n := range append(wild, 1000000001) {
		bad = append(bad, []api.Down{route(3, 1, n, 5)}, []api.Down{route(3, 1, 1, n)})
	}
	for _, l := range bad {
		refused(l, 1, 1, nil, 5)
		next, ok := down.Next(l, 3)
		if x, y := down.Expire(l, 0), down.Tell(l); len(x) > 0 || len(y) > 0 || next != 0 || ok {
			t.Errorf("%v: %v %v %d %v", l, x, y, next, ok)
		}
	}
}

// P21.1: U2 to U4; P21.5 (fading).
func TestOthers(t *testing.T) {
	l := []api.Down{route(3, 1, 7, 5), route(9, 2, 0, 8)}
	for _, x := range []struct {
		frame int
		want  []api.Down
	}{{0, l}, {5, l}, {6, l[1:]}, {8, l[1:]}, {9, nil}, {math.MinInt, l}, {math.MaxInt, nil}} {
		if y := down.Expire(l, x.frame); !same(y, x.want) {
			t.Errorf("in %d: %v", x.frame, y)
		}
	}
	for _, x := range []struct {
		target, next int
		ok           bool
	}{{3, 1, true}, {9, 2, true}, {4, 0, false}, {-1, 0, false}, {math.MaxInt, 0, false}} {
		if n, ok := down.Next(l, x.target); n != x.next || ok != x.ok {
			t.Errorf("to %d: %d %v", x.target, n, ok)
		}
	}
	if y := down.Tell(l); !same(y, []api.Down{route(3, 0, 7, 0), route(9, 0, 0, 0)}) {
		t.Errorf("tells %v", y)
	}
	a, b := down.Expire(l, 0), down.Tell(l)
	a[0].Seq, b[0].Seq = 99, 99
	if l[0].Seq != 7 {
		t.Error("memory is shared")
	}
	x := learn(t, nil, 4, 1, []api.Down{{Target: 6}}, 10)
	for f := 10; f < 16; f++ {
		if y := down.Expire(x, f); (len(y) == 2) != (f <= 13) || (len(y) == 0) != (f > 13) {
			t.Errorf("in %d: %v", f, y)
		}
	}
}

// P21.3 (newest).
func TestNewest(t *testing.T) {
	r := rand.New(rand.NewPCG(21, 2))
	for range 500 {
		var l []api.Down
		seqs := r.Perm(8)
		best, from := -1, -1
		for child, seq := range seqs {
			l = learn(t, l, child, 3, []api.Down{{Target: 20, Seq: seq}}, child)
			if seq > best {
				best, from = seq, child
			}
			if n, ok := down.Next(l, 20); n != from || !ok {
				t.Fatalf("%v: to 20 by %d", seqs, n)
			}
		}
		before := l
		l = learn(t, l, from, 1, []api.Down{{Target: 20, Seq: 0}}, 30)
		for _, d := range l {
			for _, o := range before {
				if o.Target == d.Target && d.Seq < o.Seq && o.Next != from {
					t.Fatalf("%v became %v", before, l)
				}
			}
		}
	}
}

// P21.4 (hop by hop) and P21.7 (telling).
func TestTree(t *testing.T) {
	r := rand.New(rand.NewPCG(21, 3))
	for range 200 {
		n := 2 + r.IntN(40)
		parents := make([]int, n)
		routes := make([][]api.Down, n)
		for i := 1; i < n; i++ {
			parents[i] = r.IntN(i)
		}
		for i := n - 1; i > 0; i-- { // the children of a node are greater
			p := parents[i]
			had := len(routes[p]) == 0
			routes[p] = learn(t, routes[p], i, 5, down.Tell(routes[i]), 7)
			for _, d := range append(slices.Clone(routes[i]), api.Down{Target: i}) {
				if next, ok := down.Next(routes[p], d.Target); had && (next != i || !ok) {
					t.Fatalf("%d of %d to %d: %d", i, p, d.Target, next)
				}
			}
		}
		for target := 1; target < n; target++ {
			at := 0
			for at != target {
				next, ok := down.Next(routes[at], target)
				if !ok || parents[next] != at {
					t.Fatalf("%v: from %d to %d by %d", parents, at, target, next)
				}
				at = next
			}
		}
	}
}

// P21.6 (order).
func TestOrder(t *testing.T) {
	r := rand.New(rand.NewPCG(21, 4))
	for range 1000 {
		l := some(r, 12)
		var a, b []api.Down
		for i := 2; i < 12; i++ {
			switch r.IntN(3) {
			case 0:
				a = append(a, api.Down{Target: i, Seq: r.IntN(5)})
			case 1:
				b = append(b, api.Down{Target: i, Seq: r.IntN(5)})
			}
		}
		x := learn(t, learn(t, l, 0, 2, a, 5), 1, 3, b, 5)
		if y := learn(t, learn(t, l, 1, 3, b, 5), 0, 2, a, 5); !same(x, y) {
			t.Fatalf("%v: %v and %v", l, x, y)
		}
	}
}
