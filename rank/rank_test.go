package rank_test

import (
	"math"
	"math/rand/v2"
	"slices"
	"testing"

	"slotmesh/api"
	"slotmesh/rank"
)

func at(seq, r int) api.Distance { return api.Distance{Seq: seq, Rank: r} }

func better(a, b api.Distance) bool { return a.Seq > b.Seq || a.Seq == b.Seq && a.Rank < b.Rank }

func offer(peer, seq, r, cost int) api.Offer {
	return api.Offer{Peer: peer, Told: at(seq, r), Cost: cost}
}

const none = 1000000

// P20.1: T1.
func TestStart(t *testing.T) {
	for _, seq := range []int{0, 3, 1000000000} {
		if r := rank.Start(true, seq); r != (api.Route{Own: at(seq, 0), Least: at(seq, 0), Parent: -1}) {
			t.Errorf("the root: %v", r)
		}
		if r := rank.Start(false, seq); r != (api.Route{Own: at(seq, none), Least: at(seq, 0), Parent: -1}) {
			t.Errorf("another node: %v", r)
		}
	}
	for _, seq := range []int{-1, 1000000001, math.MaxInt, math.MinInt} {
		if rank.Start(true, seq) != (api.Route{}) || rank.Start(false, seq) != (api.Route{}) {
			t.Errorf("seq %d", seq)
		}
	}
}

func distances(r *rand.Rand) api.Distance {
	return at(r.IntN(3), []int{0, 1, 128, none, none - 1, r.IntN(3)}[r.IntN(6)])
}

// P20.1: T2 and T3; P20.2 (order).
func TestBetter(t *testing.T) {
	for _, x := range []struct {
		a, b api.Distance
		want bool
	}{
		{at(4, 128), at(4, 128), false}, {at(4, 127), at(4, 128), true}, {at(4, 129), at(4, 128), false}, {at(5, none), at(4, 0), true}, {at(3, 0), at(4, none), false},
		{at(math.MaxInt, 0), at(math.MinInt, 0), true}, {at(0, math.MinInt), at(0, math.MaxInt), true},
	} {
		if rank.Better(x.a, x.b) != x.want {
			t.Errorf("%v and %v", x.a, x.b)
		}
	}
	for _, x := range []struct {
		least, told api.Distance
		want        bool
	}{{at(4, 128), at(4, 128), false}, {at(4, 128), at(4, 127), true}, {at(4, 128), at(5, none), false}, {at(4, 128), at(5, none-1), true}, {at(4, 128), at(3, 0), false}, {at(4, 128), at(5, none+1), false}} {
		if rank.Feasible(api.Route{Least: x.least, Own: at(-9, -9), Parent: 777}, x.told) != x.want {
			t.Errorf("%v and %v", x.least, x.told)
		}
	}
	r := rand.New(rand.NewPCG(20, 1))
	for range 5000 {
		a, b, c := distances(r), distances(r), distances(r)
		switch {
		case rank.Better(a, a), rank.Better(a, b) && rank.Better(b, a), !rank.Better(a, b) && !rank.Better(b, a) && a != b, rank.Better(a, b) && rank.Better(b, c) && !rank.Better(a, c):
			t.Fatalf("%v, %v, %v: no strict order", a, b, c)
		case rank.Feasible(api.Route{Least: a}, c) && better(a, b) && !rank.Feasible(api.Route{Least: b}, c):
			t.Fatalf("%v is feasible for %v, and not for %v", c, a, b)
		}
	}
}

// The examples of the chapter, and equal offers.
func TestExamples(t *testing.T) {
	r := rank.Start(false, 3)
	if x := rank.Choose(r, []api.Offer{offer(0, 3, 0, 128)}); x != r {
		t.Errorf("%v", x)
	}
	for _, x := range []struct {
		offers []api.Offer
		own    api.Distance
		parent int
	}{
		{[]api.Offer{offer(0, 4, 0, 128)}, at(4, 128), 0}, {[]api.Offer{offer(0, 4, 0, 200), offer(5, 4, 100, 128)}, at(4, 200), 0}, {[]api.Offer{offer(0, 4, 300, 128)}, at(4, 428), 0},
		{[]api.Offer{offer(5, 4, 127, 128)}, at(4, 255), 5}, {[]api.Offer{offer(5, 4, none, 128), offer(6, 4, 128, 128)}, at(4, none), -1},
	} {
		r = rank.Choose(r, x.offers)
		if r != (api.Route{Own: x.own, Least: at(4, 128), Parent: x.parent}) {
			t.Errorf("%v: %v", x.offers, r)
		}
	}
	r = rank.Start(false, 3)
	for _, x := range []struct {
		offers []api.Offer
		parent int
	}{
		{[]api.Offer{offer(3, 4, 100, 5), offer(2, 4, 95, 10)}, 2}, {[]api.Offer{offer(2, 4, 95, 10), offer(3, 4, 100, 5)}, 2}, {[]api.Offer{offer(2, 4, 95, 10), offer(3, 4, 100, 4)}, 3},
		{[]api.Offer{offer(2, 5, 900, 10), offer(3, 4, 0, 4)}, 2}, {[]api.Offer{offer(2, 4, none-10, 10)}, -1}, {[]api.Offer{offer(2, 4, none-10, 9)}, 2}, {nil, -1},
		{[]api.Offer{offer(59, 4, 0, 4096)}, 59},
	} {
		if y := rank.Choose(r, x.offers); y.Parent != x.parent {
			t.Errorf("%v: %v", x.offers, y)
		}
	}
	kept := api.Route{Own: at(4, 500), Least: at(4, 128), Parent: 2}
	for _, x := range []struct {
		o    api.Offer
		want bool
	}{{offer(2, 4, 900, 1), true}, {offer(2, 3, 0, 1), false}, {offer(3, 4, 128, 1), false}, {offer(3, 4, 127, 1), true}, {offer(2, 4, none-1, 1), false}, {offer(2, 5, 700, 1), true}} {
		if y := rank.Choose(kept, []api.Offer{x.o}); (y.Parent == x.o.Peer) != x.want || y.Least != at(4, 128) && y.Own != y.Least {
			t.Errorf("%v: %v", x.o, y)
		}
	}
	old := api.Route{Own: at(3, 500), Least: at(4, 128), Parent: 2} // the parent may be worse than Least
	if y := rank.Choose(old, []api.Offer{offer(2, 3, 600, 1)}); y != (api.Route{Own: at(3, 601), Least: at(4, 128), Parent: 2}) {
		t.Errorf("%v", y)
	}
}

// possible is the definition of a possible offer.
func possible(r api.Route, o api.Offer) bool {
	return o.Told.Rank+o.Cost < none && (better(o.Told, r.Least) || o.Peer == r.Parent && o.Told.Seq >= r.Own.Seq)
}

func routes(r *rand.Rand) api.Route {
	x := api.Route{Own: distances(r), Least: distances(r), Parent: r.IntN(5) - 1}
	if better(x.Own, x.Least) {
		x.Own, x.Least = x.Least, x.Own
	}
	return x
}

// P20.1: T4; P20.3 (valid) and P20.4 (choice).
func TestChoose(t *testing.T) {
	r := rand.New(rand.NewPCG(20, 2))
	found := 0
	for range 8000 {
		x := routes(r)
		var offers []api.Offer
		for p := range 4 {
			if r.IntN(3) > 0 {
				offers = append(offers, api.Offer{Peer: p, Told: distances(r), Cost: []int{1, 4096, 128, 127, 1 + r.IntN(3)}[r.IntN(5)]})
			}
		}
		r.Shuffle(len(offers), func(i, k int) { offers[i], offers[k] = offers[k], offers[i] })
		var best *api.Offer
		for i, o := range offers {
			if !possible(x, o) {
				continue
			}
			a := [3]int{-o.Told.Seq, o.Told.Rank + o.Cost, o.Peer}
			if best == nil || slices.Compare(a[:], []int{-best.Told.Seq, best.Told.Rank + best.Cost, best.Peer}) < 0 {
				best = &offers[i]
			}
		}
		want := api.Route{Own: at(x.Own.Seq, none), Least: x.Least, Parent: -1}
		if best != nil {
			found++
			want = api.Route{Own: at(best.Told.Seq, best.Told.Rank+best.Cost), Least: x.Least, Parent: best.Peer}
			if better(want.Own, want.Least) {
				want.Least = want.Own
			}
		}
		y := rank.Choose(x, offers)
		if y != want {
			t.Fatalf("%v with %v: %v, want %v", x, offers, y, want)
		}
		if better(x.Least, y.Least) || better(y.Own, y.Least) || y.Own.Seq < x.Own.Seq {
			t.Fatalf("%v with %v: %v", x, offers, y)
		}
		slices.Reverse(offers)
		if rank.Choose(x, offers) != y {
			t.Fatalf("%v with %v: the order matters", x, offers)
		}
		for i, o := range offers {
			if o.Peer != y.Parent {
				if rest := slices.Delete(slices.Clone(offers), i, i+1); rank.Choose(x, rest) != y {
					t.Fatalf("%v with %v: %v matters", x, offers, o)
				}
			}
		}
	}
	if found < 2000 {
		t.Errorf("only %d choices", found)
	}
}

// P20.1: T4 and T5 for what is not valid.
func TestWrong(t *testing.T) {
	good, o := rank.Start(false, 3), offer(1, 4, 0, 1)
	if rank.Choose(good, []api.Offer{o}) == good || rank.Renew(good, 4) == good {
		t.Fatal("the example should change")
	}
	for _, x := range []api.Route{
		{Own: at(-1, 0), Least: at(3, 0), Parent: -1}, {Own: at(3, -1), Least: at(3, -1), Parent: -1}, {Own: at(3, none+1), Least: at(3, 0), Parent: -1}, {Own: at(3, 0), Least: at(1000000001, 0), Parent: -1},
		{Own: at(3, none), Least: at(3, none+1), Parent: -1}, {Own: at(3, 0), Least: at(3, 1), Parent: -1}, {Own: at(4, 0), Least: at(3, 0), Parent: -1}, {Own: at(3, 0), Least: at(3, 0), Parent: -2}, {Own: at(3, 0), Least: at(3, 0), Parent: 60},
		{Own: at(3, 0), Least: at(3, -1), Parent: -1}, {Own: at(-1, 0), Least: at(-1, 0), Parent: -1}, {Own: at(1000000001, 0), Least: at(1000000001, 0), Parent: -1},
	} {
		if y := rank.Choose(x, []api.Offer{offer(1, 5, 0, 1)}); y != x {
			t.Errorf("%v chooses %v", x, y)
		}
		if y := rank.Choose(x, nil); y != x {
			t.Errorf("%v chooses %v", x, y)
		}
		if y := rank.Renew(x, 1000000000); y != x {
			t.Errorf("%v becomes %v", x, y)
		}
	}
	for _, bad := range []api.Offer{
		offer(-1, 4, 0, 1), offer(60, 4, 0, 1), offer(2, -1, 0, 1), offer(2, 1000000001, 0, 1), offer(2, 4, -1, 1), offer(2, 4, none+1, 1), offer(2, 4, 0, 0), offer(2, 4, 0, 4097), offer(1, 0, 0, 1),
		offer(2, 4, math.MinInt, 1), offer(2, 4, 0, math.MaxInt), offer(2, 4, math.MaxInt, 4096),
	} {
		for _, l := range [][]api.Offer{{o, bad}, {bad, o}} {
			if y := rank.Choose(good, l); y != good {
				t.Errorf("with %v: %v", l, y)
			}
		}
	}
	edge := api.Route{Own: at(1000000000, none), Least: at(1000000000, none), Parent: 59}
	if y := rank.Choose(edge, nil); y != (api.Route{Own: edge.Own, Least: edge.Least, Parent: -1}) {
		t.Errorf("%v", y)
	}
}

// P20.1: T5.
func TestRenew(t *testing.T) {
	r := api.Route{Own: at(4, 500), Least: at(4, 128), Parent: 2}
	for _, seq := range []int{5, 4, 1000000000} {
		if y := rank.Renew(r, seq); y != (api.Route{Own: at(seq, 0), Least: at(seq, 0), Parent: -1}) {
			t.Errorf("%d: %v", seq, y)
		}
	}
	for _, seq := range []int{3, -1, 1000000001, math.MaxInt, math.MinInt} {
		if y := rank.Renew(r, seq); y != r {
			t.Errorf("%d: %v", seq, y)
		}
	}
	if root := rank.Start(true, 4); rank.Renew(root, 4) != root {
		t.Error("the same number again")
	}
}

// net is some nodes, whose distances were told at some time; node 0 is the root.
type net struct {
	routes []api.Route
	told   [][]api.Distance
}

func (n *net) tell(i int) { n.told[i] = append(n.told[i], n.routes[i].Own) }

// loop reports whether the parents form a loop.
func (n *net) loop() bool {
	for i := range n.routes {
		k := i
		for range n.routes {
			if k = n.routes[k].Parent; k < 0 {
				break
			}
		}
		if k >= 0 {
			return true
		}
	}
	return false
}

// P20.5 (downhill), P20.6 (no loops) and P20.8 (restart).
func TestNoLoops(t *testing.T) {
	r := rand.New(rand.NewPCG(20, 3))
	parents := 0
	for range 300 {
		n := &net{}
		size := 2 + r.IntN(6)
		for i := range size {
			n.routes = append(n.routes, rank.Start(i == 0, 0))
			n.told = append(n.told, nil)
			n.tell(i)
		}
		restarted := make([]int, size)
		for step := range 200 {
			i := r.IntN(size)
			switch {
			case i == 0:
				n.routes[0] = rank.Renew(n.routes[0], n.routes[0].Own.Seq+r.IntN(2))
			case r.IntN(15) == 0:
				restarted[i] = n.routes[i].Own.Seq
				n.routes[i] = rank.Start(false, restarted[i])
			default:
				var offers []api.Offer
				for k := range size {
					if k != i && r.IntN(2) == 0 { // what it told at any time
						offers = append(offers, api.Offer{Peer: k, Told: n.told[k][r.IntN(len(n.told[k]))], Cost: 1 + r.IntN(5)})
					}
				}
				n.routes[i] = rank.Choose(n.routes[i], offers)
				x := n.routes[i]
				if p := x.Parent; p >= 0 {
					parents++
					if !better(n.routes[p].Least, x.Least) {
						t.Fatalf("step %d: %v of the parent %v", step, x, n.routes[p])
					}
				}
				if x.Parent >= 0 && x.Own.Seq <= restarted[i] && restarted[i] > 0 {
					t.Fatalf("step %d: %v after a restart with %d", step, x, restarted[i])
				}
			}
			for _, d := range n.told[i] {
				if d.Seq == n.routes[i].Own.Seq && restarted[i] == d.Seq && better(n.routes[i].Own, d) {
					t.Fatalf("step %d: %v is told after %v", step, n.routes[i].Own, d)
				}
			}
			n.tell(i)
			if n.loop() {
				t.Fatalf("step %d: a loop: %v", step, n.routes)
			}
		}
	}
	if parents < 5000 {
		t.Errorf("only %d parents", parents)
	}
}

// P20.7 (reaching).
func TestReaching(t *testing.T) {
	r := rand.New(rand.NewPCG(20, 4))
	for range 200 {
		size := 2 + r.IntN(8)
		n := &net{}
		hears := make([][]int, size)
		for i := range size {
			seq := r.IntN(5)
			x := rank.Start(i == 0, seq)
			if i > 0 && r.IntN(2) == 0 {
				x.Least.Rank = r.IntN(500)
			}
			n.routes = append(n.routes, x)
			n.told = append(n.told, nil)
			if i > 0 {
				k := r.IntN(i)
				hears[i], hears[k] = append(hears[i], k), append(hears[k], i)
			}
		}
		n.routes[0] = rank.Renew(n.routes[0], 6)
		for range size {
			before := slices.Clone(n.routes)
			for i := 1; i < size; i++ {
				var offers []api.Offer
				for _, k := range hears[i] {
					offers = append(offers, api.Offer{Peer: k, Told: before[k].Own, Cost: 128})
				}
				n.routes[i] = rank.Choose(n.routes[i], offers)
			}
		}
		for i := 1; i < size; i++ {
			k := i
			for range size {
				if k > 0 {
					k = n.routes[k].Parent
				}
				if k < 0 {
					t.Fatalf("%d does not reach the root: %v", i, n.routes)
				}
			}
		}
	}
}
