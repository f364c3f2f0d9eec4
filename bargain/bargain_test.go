package bargain_test

import (
	"fmt"
	"math"
	"math/rand/v2"
	"testing"

	"slotmesh/api"
	"slotmesh/bargain"
	"slotmesh/cells"
)

func same(a, b any) bool { return fmt.Sprint(a) == fmt.Sprint(b) }

func cell(slot, offset int) api.Cell { return api.Cell{Slot: slot, Offset: offset} }

// some returns a random valid table; data slots and offsets are few, so that the tables of nodes meet.
func some(r *rand.Rand, l api.Layout) api.Table {
	var t api.Table
	for s := range l.Data {
		c := cell(s, []int{0, 3, 15}[r.IntN(3)])
		n := r.IntN(30)
		switch r.IntN(5) {
		case 0:
			t.Uses = append(t.Uses, api.Use{Cell: c, Peer: r.IntN(l.Nodes), Stamp: n})
		case 1:
			t.Grants = append(t.Grants, api.Grant{Cell: c, Peer: r.IntN(l.Nodes), Stamp: n, Until: n + r.IntN(20)})
		case 2:
			t.Asks = append(t.Asks, api.Ask{Cell: c, Peer: r.IntN(l.Nodes)})
		}
	}
	return t
}

// told returns what a neighbour could tell: some entries of it are not valid, or come twice.
func told(r *rand.Rand, l api.Layout, from int) api.Beacon {
	x := some(r, l)
	b := api.Beacon{From: from, Uses: x.Uses, Grants: x.Grants, Asks: x.Asks}
	odd := func() api.Cell {
		return []api.Cell{cell(-1, 0), cell(l.Data, 0), cell(0, 16), cell(1%l.Data, 3), cell(0, 0), cell(0, -1)}[r.IntN(6)]
	}
	for range r.IntN(4) {
		b.Uses = append(b.Uses, api.Use{Cell: odd(), Peer: r.IntN(l.Nodes+2) - 1, Stamp: r.IntN(30) - 1})
		n := r.IntN(30) - 1
		b.Grants = append(b.Grants, api.Grant{Cell: odd(), Peer: r.IntN(l.Nodes+2) - 1, Stamp: n, Until: n + r.IntN(30) - 1})
		b.Asks = append(b.Asks, api.Ask{Cell: odd(), Peer: r.IntN(l.Nodes+2) - 1})
	}
	return b
}

// scene is a node with its neighbours.
type scene struct {
	l     api.Layout
	t     api.Table
	me    int
	near  []api.Near
	frame int
}

func (s scene) String() string { return fmt.Sprint(s.l, s.t, s.me, s.near, s.frame) }

func random(r *rand.Rand) scene {
	s := scene{l: api.Layout{Nodes: 2 + r.IntN(4), Data: 1 + r.IntN(8)}, frame: 15 + r.IntN(20)}
	s.t, s.me = some(r, s.l), r.IntN(s.l.Nodes)
	for id := range s.l.Nodes {
		if id != s.me && r.IntN(5) > 0 {
			s.near = append(s.near, api.Near{Frame: s.frame - r.IntN(4), Told: told(r, s.l, id)})
		}
	}
	return s
}

func (s scene) okUse(u api.Use) bool {
	return cells.Valid(api.Table{Uses: []api.Use{u}}, s.l)
}
func (s scene) okGrant(g api.Grant) bool {
	return cells.Valid(api.Table{Grants: []api.Grant{g}}, s.l)
}
func (s scene) okAsk(a api.Ask) bool { return cells.Valid(api.Table{Asks: []api.Ask{a}}, s.l) }

// possible is the definition of what Ask can ask for.
func (s scene) possible(peer api.Beacon, c api.Cell) bool {
	for _, u := range append(append([]api.Use{}, s.t.Uses...), peer.Uses...) {
		if s.okUse(u) && u.Cell.Slot == c.Slot {
			return false
		}
	}
	for _, g := range append(append([]api.Grant{}, s.t.Grants...), peer.Grants...) {
		if s.okGrant(g) && g.Cell.Slot == c.Slot {
			return false
		}
	}
	for _, n := range s.near {
		for _, g := range n.Told.Grants {
			if s.okGrant(g) && g.Cell == c && g.Peer != s.me {
				return false
			}
		}
	}
	return true
}

// ask is Ask by its definition.
func (s scene) ask(peer, many int) api.Table {
	x := s.t
	x.Asks = nil
	for _, n := range s.near {
		if n.Told.From != peer {
			continue
		}
		bySlot := map[int]api.Ask{}
		for _, a := range s.t.Asks {
			if a.Peer == peer && s.possible(n.Told, a.Cell) && len(bySlot) < many {
				bySlot[a.Cell.Slot] = a
			}
		}
		for k := 0; k < 16*s.l.Data; k++ {
			c := (17*s.me + 5*s.frame + k) % (16 * s.l.Data)
			x := cell(c%s.l.Data, c/s.l.Data)
			if _, there := bySlot[x.Slot]; len(bySlot) < many && !there && s.possible(n.Told, x) {
				bySlot[x.Slot] = api.Ask{Cell: x, Peer: peer}
			}
		}
		for i := range s.l.Data {
			if a, ok := bySlot[i]; ok {
				x.Asks = append(x.Asks, a)
			}
		}
	}
	return x
}

// grant is Grant by its definition.
func (s scene) grant() api.Table {
	x := s.t
	x.Grants = nil
	for _, g := range s.t.Grants {
		if g.Until < s.frame {
			continue
		}
		for _, n := range s.near {
			if n.Told.From != g.Peer || n.Frame < s.frame-1 {
				continue
			}
			for _, u := range n.Told.Uses {
				if s.okUse(u) && u.Cell == g.Cell && u.Peer == s.me {
					g.Until = max(g.Until, s.frame+8)
				}
			}
			for _, a := range n.Told.Asks {
				if s.okAsk(a) && a.Cell == g.Cell && a.Peer == s.me {
					g.Until = max(g.Until, s.frame+8)
				}
			}
		}
		x.Grants = append(x.Grants, g)
	}
	for _, n := range s.near {
		for _, a := range n.Told.Asks {
			if n.Frame < s.frame-1 || !s.okAsk(a) || a.Peer != s.me {
				continue
			}
			used := false
			for _, m := range s.near {
				for _, u := range m.Told.Uses {
					used = used || m.Told.From != n.Told.From && s.okUse(u) && u.Cell == a.Cell
				}
			}
			if used {
				continue
			}
			if y, e := cells.AddGrant(x, s.l, api.Grant{Cell: a.Cell, Peer: n.Told.From, Stamp: s.frame, Until: s.frame + 8}); e == api.OK {
				x = y
			}
		}
	}
	return x
}

// grants returns what a neighbour grants to the node.
func (s scene) grants(b api.Beacon) []api.Grant {
	var l []api.Grant
	for _, g := range b.Grants {
		if s.okGrant(g) && g.Peer == s.me && g.Until >= s.frame {
			l = append(l, g)
		}
	}
	return l
}

// take is Take by its definition.
func (s scene) take() api.Table {
	x := s.t
	x.Uses = nil
	peers := map[int]bool{}
	for _, u := range s.t.Uses {
		peers[u.Peer] = true
	uses:
		for _, n := range s.near {
			if n.Told.From == u.Peer {
				for _, g := range s.grants(n.Told) {
					if g.Cell == u.Cell {
						u.Stamp = g.Stamp
						x.Uses = append(x.Uses, u)
						break uses
					}
				}
			}
		}
	}
	for _, a := range s.t.Asks {
		peers[a.Peer] = true
	}
	for _, n := range s.near {
		if !peers[n.Told.From] {
			continue
		}
		for _, g := range s.grants(n.Told) {
			if y, e := cells.AddUse(x, s.l, api.Use{Cell: g.Cell, Peer: n.Told.From, Stamp: g.Stamp}); e == api.OK {
				x = y
			}
		}
	}
	return x
}

// P13.1: M1 to M3, compared with their definitions; P13.2 (valid).
func TestTrading(t *testing.T) {
	r := rand.New(rand.NewPCG(13, 1))
	for range 6000 {
		s := random(r)
		before := s.String()
		peer, many := r.IntN(s.l.Nodes), r.IntN(6)
		x, y, z := bargain.Ask(s.l, s.t, s.me, s.near, peer, many, s.frame), bargain.Grant(s.l, s.t, s.me, s.near, s.frame), bargain.Take(s.l, s.t, s.me, s.near, s.frame)
		if want := s.ask(peer, many); !same(x, want) {
			t.Fatalf("%v: Ask %d for %d: %v, want %v", s, peer, many, x, want)
		}
		if want := s.grant(); !same(y, want) {
			t.Fatalf("%v: Grant: %v, want %v", s, y, want)
		}
		if want := s.take(); !same(z, want) {
			t.Fatalf("%v: Take: %v, want %v", s, z, want)
		}
		if !cells.Valid(x, s.l) || !cells.Valid(y, s.l) || !cells.Valid(z, s.l) {
			t.Fatalf("%v: not valid: %v %v %v", s, x, y, z)
		}
		if !same(x.Uses, s.t.Uses) || !same(x.Grants, s.t.Grants) || !same(y.Uses, s.t.Uses) || !same(z.Grants, s.t.Grants) {
			t.Fatalf("%v: other lists have changed: %v %v %v", s, x, y, z)
		}
		for _, w := range []api.Table{x, y, z} {
			for i := range w.Uses {
				w.Uses[i].Stamp = -99
			}
			for i := range w.Grants {
				w.Grants[i].Stamp = -99
			}
			for i := range w.Asks {
				w.Asks[i].Peer = -99
			}
		}
		if s.String() != before {
			t.Fatalf("%s has changed", before)
		}
	}
}

// P13.1: arguments that are not valid leave the table as it is.
func TestWrongArguments(t *testing.T) {
	l := api.Layout{Nodes: 3, Data: 4}
	grants := []api.Grant{{Cell: cell(2, 2), Peer: 0, Stamp: 5, Until: 90}}
	good := scene{l, api.Table{Uses: []api.Use{{Cell: cell(0, 1), Peer: 1}}, Grants: []api.Grant{{Cell: cell(1, 1), Peer: 1, Until: 2}}, Asks: []api.Ask{{Cell: cell(3, 1), Peer: 2}}}, 0,
		[]api.Near{{Frame: 20, Told: api.Beacon{From: 1, Grants: grants}}, {Frame: 0, Told: api.Beacon{From: 2}}}, 20}
	unchanged := func(s scene, peer, many int) (bool, bool, bool) {
		return same(bargain.Ask(s.l, s.t, s.me, s.near, peer, many, s.frame), s.t), same(bargain.Grant(s.l, s.t, s.me, s.near, s.frame), s.t), same(bargain.Take(s.l, s.t, s.me, s.near, s.frame), s.t)
	}
	if a, b, c := unchanged(good, 1, 2); a || b || c {
		t.Fatal("the example should change")
	}
	for i, change := range []func(*scene){
		func(s *scene) { s.l.Nodes = 61 }, func(s *scene) { s.l.Data = 0 }, func(s *scene) { s.l.Data = 3 }, func(s *scene) { s.t.Uses = append(s.t.Uses, s.t.Uses[0]) },
		func(s *scene) { s.me = -1 }, func(s *scene) { s.me = 3 }, func(s *scene) { s.me = 1 }, func(s *scene) { s.me = math.MinInt },
		func(s *scene) { s.frame = -1; s.near = nil }, func(s *scene) { s.frame = 1000000000 - 7 }, func(s *scene) { s.frame = math.MaxInt }, func(s *scene) { s.frame = 19 },
		func(s *scene) { s.near[1].Told.From = 3 }, func(s *scene) { s.near[0].Told.From = -1 }, func(s *scene) { s.near[1].Told.From = 1 }, func(s *scene) { s.near[0].Told.From = 0 },
		func(s *scene) { s.near[0], s.near[1] = s.near[1], s.near[0] }, func(s *scene) { s.near[1].Frame = -1 }, func(s *scene) { s.near[0].Frame = 21 }, func(s *scene) { s.near[0].Frame = math.MinInt },
	} {
		s := good
		s.near = append([]api.Near{}, good.near...)
		s.t.Uses = append([]api.Use{}, good.t.Uses...)
		change(&s)
		if a, b, c := unchanged(s, 1, 2); !a || !b || !c {
			t.Errorf("change %d: %v %v %v", i, a, b, c)
		}
	}
	for _, many := range []int{-1, 25, math.MaxInt, math.MinInt} {
		if a, _, _ := unchanged(good, 1, many); !a {
			t.Errorf("%d cells", many)
		}
	}
	for _, peer := range []int{0, 3, -1, math.MaxInt, math.MinInt} { // none of the neighbours
		x := bargain.Ask(l, good.t, 0, good.near, peer, 2, 20)
		want := good.t
		want.Asks = nil
		if !same(x, want) {
			t.Errorf("asking %d: %v", peer, x)
		}
	}
	last := good
	last.frame, last.near = 1000000000-8, nil
	if a, b, c := unchanged(last, 1, 2); a || b || c {
		t.Errorf("the last frame: %v %v %v", a, b, c)
	}
	if x := bargain.Ask(api.Layout{Nodes: 2, Data: 60}, api.Table{}, 1, []api.Near{{}}, 0, 24, 0); len(x.Asks) != 24 {
		t.Errorf("24 cells: %v", x)
	}
}

// The example of the chapter.
func TestExample(t *testing.T) {
	l := api.Layout{Nodes: 2, Data: 4}
	var a, b api.Table
	a0 := []api.Near{{Frame: 0, Told: api.Beacon{From: 0}}}
	b = bargain.Ask(l, b, 1, a0, 0, 2, 0)
	asks := []api.Ask{{Cell: cell(1, 4)}, {Cell: cell(2, 4)}}
	if !same(b, api.Table{Asks: asks}) {
		t.Fatalf("asks %v", b)
	}
	a = bargain.Grant(l, a, 0, []api.Near{{Frame: 1, Told: api.Beacon{From: 1, Asks: b.Asks}}}, 1)
	if !same(a, api.Table{Grants: []api.Grant{{Cell: cell(1, 4), Peer: 1, Stamp: 1, Until: 9}, {Cell: cell(2, 4), Peer: 1, Stamp: 1, Until: 9}}}) {
		t.Fatalf("grants %v", a)
	}
	b = bargain.Take(l, b, 1, []api.Near{{Frame: 2, Told: api.Beacon{From: 0, Grants: a.Grants}}}, 2)
	if !same(b, api.Table{Uses: []api.Use{{Cell: cell(1, 4), Stamp: 1}, {Cell: cell(2, 4), Stamp: 1}}}) {
		t.Fatalf("takes %v", b)
	}
	a = bargain.Grant(l, a, 0, []api.Near{{Frame: 3, Told: api.Beacon{From: 1, Uses: b.Uses}}}, 3)
	if a.Grants[0].Until != 11 || a.Grants[1].Until != 11 || a.Grants[0].Stamp != 1 {
		t.Fatalf("grants %v", a)
	}
}

// P13.3 (granted) and P13.4 (nobody is disturbed).
func TestDisturbing(t *testing.T) {
	r := rand.New(rand.NewPCG(13, 2))
	for range 3000 {
		s := random(r)
		for _, u := range bargain.Take(s.l, s.t, s.me, s.near, s.frame).Uses {
			granted := false
			for _, n := range s.near {
				for _, g := range n.Told.Grants {
					granted = granted || n.Told.From == u.Peer && g.Cell == u.Cell && g.Peer == s.me && g.Until >= s.frame && g.Stamp == u.Stamp
				}
			}
			if !granted {
				t.Fatalf("%v: takes %v", s, u)
			}
		}
		old := map[api.Cell]bool{}
		for _, g := range s.t.Grants {
			old[g.Cell] = true
		}
		for _, g := range bargain.Grant(s.l, s.t, s.me, s.near, s.frame).Grants {
			for _, n := range s.near {
				for _, u := range n.Told.Uses {
					if !old[g.Cell] && n.Told.From != g.Peer && u.Cell == g.Cell && s.okUse(u) {
						t.Fatalf("%v: grants %v", s, g)
					}
				}
			}
		}
		for _, n := range s.near {
			for _, a := range bargain.Ask(s.l, s.t, s.me, s.near, n.Told.From, 5, s.frame).Asks {
				if !s.possible(n.Told, a.Cell) {
					t.Fatalf("%v: asks for %v", s, a)
				}
			}
		}
	}
}

// pair lets node 1 trade with node 0 for some frames; some of their beacons are lost.
func pair(t *testing.T, r *rand.Rand, data, many, frames, lost int) (api.Table, api.Table) {
	t.Helper()
	l := api.Layout{Nodes: 2, Data: data}
	var a, b api.Table
	var nearA, nearB []api.Near
	for f := range frames {
		if r.IntN(100) >= lost { // node 0 tells first
			nearB = []api.Near{{Frame: f, Told: api.Beacon{From: 0, Uses: a.Uses, Grants: a.Grants, Asks: a.Asks}}}
		}
		b = bargain.Take(l, b, 1, nearB, f)
		for _, u := range b.Uses { // P13.5
			granted := false
			for _, g := range a.Grants {
				granted = granted || g.Cell == u.Cell && g.Peer == 1 && g.Until >= f
			}
			if !granted {
				t.Fatalf("in %d: %v uses %v", f, b, a)
			}
		}
		if f >= 2 && lost == 0 && len(b.Uses) != min(many, data) { // P13.6
			t.Fatalf("in %d: %d cells of %d: %v", f, len(b.Uses), many, b)
		}
		if r.IntN(100) >= lost {
			nearA = []api.Near{{Frame: f, Told: api.Beacon{From: 1, Uses: b.Uses, Grants: b.Grants, Asks: b.Asks}}}
		}
		a = bargain.Grant(l, a, 0, nearA, f)
		b = bargain.Grant(l, b, 1, nearB, f)
		b = bargain.Ask(l, b, 1, nearB, 0, max(0, many-len(b.Uses)), f)
	}
	return a, b
}

// P13.5 (two nodes) and P13.6 (settling).
func TestTwoNodes(t *testing.T) {
	r := rand.New(rand.NewPCG(13, 3))
	for range 200 {
		data, many := 1+r.IntN(20), r.IntN(10)
		pair(t, r, data, many, 20, 0)
		pair(t, r, data, many, 60, 10+r.IntN(60))
	}
}

// P13.7 (lease).
func TestLease(t *testing.T) {
	r := rand.New(rand.NewPCG(13, 4))
	l := api.Layout{Nodes: 2, Data: 6}
	a, b := pair(t, r, 6, 3, 20, 0)
	if len(a.Grants) != 3 || len(b.Uses) != 3 {
		t.Fatalf("%v and %v", a, b)
	}
	silent, dropped, told := a, a, a
	for f := 20; f < 60; f++ {
		silent = bargain.Grant(l, silent, 0, []api.Near{{Frame: 19, Told: api.Beacon{From: 1, Uses: b.Uses}}}, f)
		dropped = bargain.Grant(l, dropped, 0, []api.Near{{Frame: f, Told: api.Beacon{From: 1}}}, f)
		told = bargain.Grant(l, told, 0, []api.Near{{Frame: f - 1, Told: api.Beacon{From: 1, Uses: b.Uses}}}, f)
		if len(told.Grants) != 3 || told.Grants[0].Until != f+8 {
			t.Fatalf("in %d: %v", f, told)
		}
		if (len(silent.Grants) == 3) != (f <= 28) || (len(dropped.Grants) == 3) != (f <= 27) {
			t.Fatalf("in %d: %v and %v", f, silent, dropped)
		}
	}
	long := api.Table{Grants: []api.Grant{{Cell: cell(1, 1), Peer: 1, Until: 900}}}
	long = bargain.Grant(l, long, 0, []api.Near{{Frame: 20, Told: api.Beacon{From: 1, Uses: []api.Use{{Cell: cell(1, 1)}}}}}, 20)
	if long.Grants[0].Until != 900 {
		t.Errorf("a grant that lasts longer: %v", long)
	}
}
