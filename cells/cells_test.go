package cells_test

import (
	"fmt"
	"math"
	"math/rand/v2"
	"testing"

	"slotmesh/api"
	"slotmesh/cells"
)

func same(a, b any) bool { return fmt.Sprint(a) == fmt.Sprint(b) }

func cell(slot, offset int) api.Cell { return api.Cell{Slot: slot, Offset: offset} }

func copied(t api.Table) api.Table {
	return api.Table{Uses: append([]api.Use{}, t.Uses...), Grants: append([]api.Grant{}, t.Grants...), Asks: append([]api.Ask{}, t.Asks...)}
}

// some returns a random valid table for a layout.
func some(r *rand.Rand, l api.Layout) api.Table {
	var t api.Table
	for s := range l.Data {
		c := cell(s, r.IntN(16))
		switch r.IntN(6) {
		case 0, 1:
			if len(t.Uses)+len(t.Grants) < 24 {
				t.Uses = append(t.Uses, api.Use{Cell: c, Peer: r.IntN(l.Nodes), Stamp: r.IntN(100)})
			}
		case 2, 3:
			if len(t.Uses)+len(t.Grants) < 24 {
				n := r.IntN(100)
				t.Grants = append(t.Grants, api.Grant{Cell: c, Peer: r.IntN(l.Nodes), Stamp: n, Until: n + r.IntN(20)})
			}
		case 4:
			if len(t.Asks) < 24 {
				t.Asks = append(t.Asks, api.Ask{Cell: c, Peer: r.IntN(l.Nodes)})
			}
		}
	}
	return t
}

func layout(r *rand.Rand) api.Layout {
	return api.Layout{Nodes: 1 + r.IntN(10), Data: []int{1, 4, 30, 60}[r.IntN(4)]}
}

// P12.1: L1.
func TestValid(t *testing.T) {
	l := api.Layout{Nodes: 3, Data: 4}
	good := api.Table{
		Uses:   []api.Use{{Cell: cell(0, 0), Peer: 0, Stamp: 0}, {Cell: cell(2, 15), Peer: 2, Stamp: 1000000000}},
		Grants: []api.Grant{{Cell: cell(1, 3), Peer: 1, Stamp: 5, Until: 5}},
		Asks:   []api.Ask{{Cell: cell(3, 3), Peer: 1}},
	}
	check := func(x api.Table, l api.Layout, want bool) {
		t.Helper()
		if cells.Valid(x, l) != want {
			t.Errorf("%v for %v: not %v", x, l, want)
		}
	}
	check(good, l, true)
	check(api.Table{}, l, true)
	check(api.Table{Grants: []api.Grant{{Until: 1000000000}, {Cell: cell(3, 0), Stamp: 1000000000, Until: 1000000000}}}, l, true)
	for _, n := range []int{1, 60, 0, 61, -1, math.MaxInt, math.MinInt} {
		check(api.Table{}, api.Layout{Nodes: n, Data: 4}, n >= 1 && n <= 60)
		check(api.Table{}, api.Layout{Nodes: 4, Data: n}, n >= 1 && n <= 60)
	}
	for i, change := range []func(*api.Table){
		func(x *api.Table) { x.Uses[1].Cell.Slot = 4 }, func(x *api.Table) { x.Uses[0].Cell.Slot = -1 }, func(x *api.Table) { x.Uses[1].Cell.Offset = 16 }, func(x *api.Table) { x.Uses[0].Cell.Offset = -1 },
		func(x *api.Table) { x.Uses[1].Peer = 3 }, func(x *api.Table) { x.Uses[1].Peer = -1 }, func(x *api.Table) { x.Uses[0].Stamp = -1 }, func(x *api.Table) { x.Uses[0].Stamp = 1000000001 },
		func(x *api.Table) { x.Grants[0].Cell.Slot = 4 }, func(x *api.Table) { x.Grants[0].Cell.Offset = 16 }, func(x *api.Table) { x.Grants[0].Peer = 3 }, func(x *api.Table) { x.Grants[0].Until = 4 },
		func(x *api.Table) { x.Grants[0].Stamp = -1 }, func(x *api.Table) { x.Grants[0].Until = 1000000001 }, func(x *api.Table) { x.Asks[0].Cell.Slot = 4 }, func(x *api.Table) { x.Asks[0].Cell.Offset = -1 },
		func(x *api.Table) { x.Asks[0].Peer = 3 }, func(x *api.Table) { x.Asks[0].Peer = -1 }, func(x *api.Table) { x.Uses[0], x.Uses[1] = x.Uses[1], x.Uses[0] }, func(x *api.Table) { x.Uses[1].Cell.Slot = 0 },
		func(x *api.Table) { x.Grants[0].Cell.Slot = 0 }, func(x *api.Table) { x.Grants[0].Cell.Slot = 2 }, func(x *api.Table) { x.Asks[0].Cell.Slot = 2 }, func(x *api.Table) { x.Asks[0].Cell.Slot = 1 },
		func(x *api.Table) { x.Grants = append(x.Grants, x.Grants[0]) }, func(x *api.Table) { x.Asks = append(x.Asks, x.Asks[0]) }, func(x *api.Table) { x.Uses[0].Cell.Slot = math.MaxInt }, func(x *api.Table) { x.Uses[0].Cell.Slot = math.MinInt },
	} {
		x := copied(good)
		change(&x)
		if cells.Valid(x, l) {
			t.Errorf("change %d: %v is valid", i, x)
		}
	}
	big := api.Layout{Nodes: 60, Data: 60}
	for n := 23; n <= 25; n++ {
		for uses := range n + 1 {
			var x, y api.Table
			for i := range n {
				if i < uses {
					x.Uses = append(x.Uses, api.Use{Cell: cell(i, 0)})
				} else {
					x.Grants = append(x.Grants, api.Grant{Cell: cell(i, 0)})
				}
				y.Asks = append(y.Asks, api.Ask{Cell: cell(i, 0)})
			}
			check(x, big, n <= 24)
			check(y, big, n <= 24)
		}
	}
	r := rand.New(rand.NewPCG(12, 1))
	for range 300 {
		l := layout(r)
		check(some(r, l), l, true)
	}
}

// P12.1: L2.
func TestBusy(t *testing.T) {
	x := api.Table{Uses: []api.Use{{Cell: cell(5, 1)}, {Cell: cell(-7, 99)}}, Grants: []api.Grant{{Cell: cell(3, 1)}}, Asks: []api.Ask{{Cell: cell(4, 1)}}}
	for _, n := range []int{-7, -1, 0, 1, 3, 4, 5, 60, math.MaxInt, math.MinInt} {
		if cells.Busy(x, n) != (n == 5 || n == 3 || n == -7) {
			t.Errorf("the slot %d", n)
		}
	}
	if cells.Busy(api.Table{}, 0) {
		t.Error("of nothing")
	}
	if len(x.Asks) != 1 {
		t.Error("the table has changed")
	}
}

// P12.1: L3 by examples.
func TestAdd(t *testing.T) {
	l := api.Layout{Nodes: 3, Data: 4}
	a, e := cells.AddUse(api.Table{}, l, api.Use{Cell: cell(2, 5), Stamp: 7})
	if e != api.OK || !same(a, api.Table{Uses: []api.Use{{Cell: cell(2, 5), Stamp: 7}}}) {
		t.Errorf("%v %v", a, e)
	}
	if b, e := cells.AddGrant(a, l, api.Grant{Cell: cell(2, 6), Peer: 1}); e != api.ErrTwice || !same(b, api.Table{}) {
		t.Errorf("%v %v", b, e)
	}
	if b, e := cells.AddUse(a, l, api.Use{Cell: cell(2, 6), Peer: 1}); e != api.ErrTwice || !same(b, api.Table{}) {
		t.Errorf("%v %v", b, e)
	}
	b, e := cells.AddGrant(api.Table{Asks: []api.Ask{{Cell: cell(3, 1)}}}, l, api.Grant{Cell: cell(3, 9), Peer: 2, Stamp: 7, Until: 15})
	if e != api.OK || !same(b, api.Table{Grants: []api.Grant{{Cell: cell(3, 9), Peer: 2, Stamp: 7, Until: 15}}}) {
		t.Errorf("%v %v", b, e)
	}
	for _, u := range []api.Use{{Cell: cell(4, 0)}, {Cell: cell(-1, 0)}, {Cell: cell(0, 16)}, {Cell: cell(0, -1)}, {Peer: 3}, {Peer: -1}, {Stamp: -1}, {Stamp: 1000000001}, {Cell: cell(2, 16)}} {
		if x, e := cells.AddUse(a, l, u); e != api.ErrArg || !same(x, api.Table{}) {
			t.Errorf("%v: %v %v", u, x, e)
		}
	}
	for _, g := range []api.Grant{{Cell: cell(4, 0)}, {Cell: cell(0, 16)}, {Peer: 3}, {Stamp: -1}, {Stamp: 5, Until: 4}, {Until: 1000000001}, {Cell: cell(2, 5), Peer: 9}} {
		if x, e := cells.AddGrant(a, l, g); e != api.ErrArg || !same(x, api.Table{}) {
			t.Errorf("%v: %v %v", g, x, e)
		}
	}
	wrong := api.Table{Uses: []api.Use{{Cell: cell(1, 1)}, {Cell: cell(1, 1)}}}
	if _, e := cells.AddUse(wrong, l, api.Use{}); e != api.ErrArg {
		t.Errorf("a wrong table: %v", e)
	}
	if _, e := cells.AddGrant(wrong, l, api.Grant{}); e != api.ErrArg {
		t.Errorf("a wrong table: %v", e)
	}
	if _, e := cells.AddUse(api.Table{}, api.Layout{Nodes: 3}, api.Use{}); e != api.ErrArg {
		t.Errorf("a wrong layout: %v", e)
	}
}

// P12.1: L4.
func TestDrop(t *testing.T) {
	x := api.Table{
		Uses:   []api.Use{{Cell: cell(5, 1), Peer: 1}, {Cell: cell(5, 1), Peer: 9}, {Cell: cell(5, 2)}},
		Grants: []api.Grant{{Cell: cell(5, 1)}, {Cell: cell(4, 1)}},
		Asks:   []api.Ask{{Cell: cell(1, 5)}, {Cell: cell(5, 1)}},
	}
	want := api.Table{Uses: []api.Use{{Cell: cell(5, 2)}}, Grants: []api.Grant{{Cell: cell(4, 1)}}, Asks: []api.Ask{{Cell: cell(1, 5)}}}
	if y := cells.Drop(x, cell(5, 1)); !same(y, want) {
		t.Errorf("%v", y)
	}
	if y := cells.Drop(x, cell(5, 3)); !same(y, x) {
		t.Errorf("%v", y)
	}
}

// P12.1: L5; P12.6 (time).
func TestExpire(t *testing.T) {
	g := api.Table{Grants: []api.Grant{{Cell: cell(3, 9), Peer: 2, Stamp: 7, Until: 15}}, Uses: []api.Use{{Stamp: 3}}, Asks: []api.Ask{{Peer: 1}}}
	rest := api.Table{Uses: g.Uses, Asks: g.Asks}
	for _, x := range []struct {
		frame int
		want  api.Table
	}{{15, g}, {16, rest}, {0, g}, {math.MinInt, g}, {math.MaxInt, rest}} {
		if y := cells.Expire(g, x.frame); !same(y, x.want) {
			t.Errorf("in %d: %v", x.frame, y)
		}
	}
	r := rand.New(rand.NewPCG(12, 2))
	for range 500 {
		l := layout(r)
		x := some(r, l)
		a, b := r.IntN(130), r.IntN(130)
		y := cells.Expire(cells.Expire(x, a), b)
		if !same(y, cells.Expire(x, max(a, b))) || !cells.Valid(y, l) {
			t.Fatalf("%v in %d and %d: %v", x, a, b, y)
		}
		var want []api.Grant
		for _, g := range x.Grants {
			if g.Until >= a {
				want = append(want, g)
			}
		}
		z := cells.Expire(x, a)
		if !same(z.Grants, want) || !same(z.Uses, x.Uses) || !same(z.Asks, x.Asks) || len(want) == len(x.Grants) && !same(z, x) {
			t.Fatalf("%v in %d: %v", x, a, z)
		}
	}
}

// added is what AddUse or AddGrant should return, by going through all data slots.
func added(t api.Table, l api.Layout, u *api.Use, g *api.Grant) api.Table {
	var x api.Table
	for s := range l.Data {
		if u != nil && u.Cell.Slot == s {
			x.Uses = append(x.Uses, *u)
			continue
		}
		if g != nil && g.Cell.Slot == s {
			x.Grants = append(x.Grants, *g)
			continue
		}
		for _, v := range t.Uses {
			if v.Cell.Slot == s {
				x.Uses = append(x.Uses, v)
			}
		}
		for _, v := range t.Grants {
			if v.Cell.Slot == s {
				x.Grants = append(x.Grants, v)
			}
		}
		for _, v := range t.Asks {
			if v.Cell.Slot == s {
				x.Asks = append(x.Asks, v)
			}
		}
	}
	return x
}

// P12.1: L3; P12.2 (validity), P12.3 (one use of the radio) and P12.5 (and back).
func TestAdding(t *testing.T) {
	r := rand.New(rand.NewPCG(12, 3))
	for range 3000 {
		l := layout(r)
		x := some(r, l)
		before := fmt.Sprint(x)
		c := cell(r.IntN(l.Data), r.IntN(16))
		var y, want api.Table
		var e api.Errno
		if r.IntN(2) == 0 {
			u := api.Use{Cell: c, Peer: r.IntN(l.Nodes), Stamp: r.IntN(100)}
			y, e = cells.AddUse(x, l, u)
			want = added(x, l, &u, nil)
		} else {
			g := api.Grant{Cell: c, Peer: r.IntN(l.Nodes), Stamp: 5, Until: 5 + r.IntN(9)}
			y, e = cells.AddGrant(x, l, g)
			want = added(x, l, nil, &g)
		}
		switch {
		case cells.Busy(x, c.Slot):
			if e != api.ErrTwice || !same(y, api.Table{}) {
				t.Fatalf("%v and %v: %v %v", x, c, y, e)
			}
		case len(x.Uses)+len(x.Grants) == 24:
			if e != api.ErrFull || !same(y, api.Table{}) {
				t.Fatalf("%v and %v: %v %v", x, c, y, e)
			}
		case e != api.OK || !same(y, want) || !cells.Valid(y, l) || !cells.Busy(y, c.Slot):
			t.Fatalf("%v and %v: %v %v", x, c, y, e)
		default:
			back := copied(x)
			for i, a := range back.Asks {
				if a.Cell.Slot == c.Slot {
					back.Asks = append(back.Asks[:i], back.Asks[i+1:]...)
					break
				}
			}
			if z := cells.Drop(y, c); !same(z, back) {
				t.Fatalf("%v and %v, and back: %v", x, c, z)
			}
		}
		if fmt.Sprint(x) != before {
			t.Fatal("the table has changed")
		}
	}
}

// P12.4 (order).
func TestOrder(t *testing.T) {
	r := rand.New(rand.NewPCG(12, 4))
	l := api.Layout{Nodes: 5, Data: 30}
	for range 1000 {
		x := some(r, l)
		u := api.Use{Cell: cell(r.IntN(30), 3), Peer: 2, Stamp: 1}
		g := api.Grant{Cell: cell(r.IntN(30), 4), Peer: 3, Until: 9}
		if u.Cell.Slot == g.Cell.Slot {
			continue
		}
		a, e1 := cells.AddUse(x, l, u)
		b, e2 := cells.AddGrant(x, l, g)
		if e1 != api.OK || e2 != api.OK {
			continue
		}
		c, e3 := cells.AddGrant(a, l, g)
		d, e4 := cells.AddUse(b, l, u)
		if e3 != e4 || !same(c, d) {
			t.Fatalf("%v with %v and %v: %v %v, %v %v", x, u, g, c, e3, d, e4)
		}
	}
}

// P12.7 (room).
func TestRoom(t *testing.T) {
	l := api.Layout{Nodes: 5, Data: 60}
	for uses := 0; uses <= 24; uses += 6 {
		var x api.Table
		for i := range 24 {
			var e api.Errno
			if i < uses {
				x, e = cells.AddUse(x, l, api.Use{Cell: cell(59-i*2, 1)})
			} else {
				x, e = cells.AddGrant(x, l, api.Grant{Cell: cell(59-i*2, 1)})
			}
			if e != api.OK {
				t.Fatalf("the cell %d: %v", i, e)
			}
		}
		if y, e := cells.AddUse(x, l, api.Use{}); e != api.ErrFull || !same(y, api.Table{}) {
			t.Errorf("%v", e)
		}
		if y, e := cells.AddGrant(x, l, api.Grant{}); e != api.ErrFull || !same(y, api.Table{}) {
			t.Errorf("%v", e)
		}
		if _, e := cells.AddGrant(x, l, api.Grant{Cell: cell(59, 0)}); e != api.ErrTwice {
			t.Errorf("%v", e)
		}
		y := cells.Drop(x, cell(35, 1))
		if _, e := cells.AddGrant(y, l, api.Grant{}); e != api.OK {
			t.Errorf("after dropping: %v", e)
		}
	}
}

// A result shares no memory with the table.
func TestMemory(t *testing.T) {
	l := api.Layout{Nodes: 3, Data: 6}
	x := api.Table{Uses: make([]api.Use, 1, 10), Grants: append(make([]api.Grant, 0, 10), api.Grant{Cell: cell(1, 1), Until: 9}), Asks: append(make([]api.Ask, 0, 10), api.Ask{Cell: cell(2, 1)})}
	a, _ := cells.AddUse(x, l, api.Use{Cell: cell(3, 0), Stamp: 1})
	b, _ := cells.AddGrant(x, l, api.Grant{Cell: cell(4, 0), Until: 1})
	for _, y := range []api.Table{a, b, cells.Drop(x, cell(5, 0)), cells.Expire(x, 0)} {
		y.Uses[0].Stamp, y.Grants[0].Until, y.Asks[0].Peer = 77, 77, 2
	}
	if x.Uses[0].Stamp != 0 || x.Grants[0].Until != 9 || x.Asks[0].Peer != 0 || x.Uses[:2][1].Stamp != 0 || x.Grants[:2][1].Until != 0 {
		t.Errorf("the table has changed: %v", x)
	}
}
