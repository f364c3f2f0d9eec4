package claims_test

import (
	"fmt"
	"math"
	"math/rand/v2"
	"slices"
	"testing"

	"slotmesh/api"
	"slotmesh/claims"
)

func same(a, b any) bool { return fmt.Sprint(a) == fmt.Sprint(b) }

func cell(slot, offset int) api.Cell { return api.Cell{Slot: slot, Offset: offset} }

func better(stamp1, sender1, stamp2, sender2 int) bool {
	if stamp1 != stamp2 {
		return stamp1 < stamp2
	}
	return sender1 < sender2
}

// some returns a table with few different cells, stamps and peers; it need not be valid.
func some(r *rand.Rand, nodes int) api.Table {
	var t api.Table
	c := func() api.Cell { return cell(r.IntN(3), r.IntN(2)) }
	for range r.IntN(4) {
		t.Uses = append(t.Uses, api.Use{Cell: c(), Peer: r.IntN(nodes), Stamp: r.IntN(4)})
		t.Grants = append(t.Grants, api.Grant{Cell: c(), Peer: r.IntN(nodes), Stamp: r.IntN(4), Until: 8 + r.IntN(4)})
	}
	for range r.IntN(3) {
		t.Asks = append(t.Asks, api.Ask{Cell: c(), Peer: r.IntN(nodes)})
	}
	return t
}

func around(r *rand.Rand, nodes int) []api.Near {
	var near []api.Near
	for range r.IntN(5) {
		x := some(r, nodes)
		near = append(near, api.Near{Frame: 7 + r.IntN(5), Told: api.Beacon{From: r.IntN(nodes), Uses: x.Uses, Grants: x.Grants, Asks: x.Asks}})
	}
	return near
}

// yield is Yield by its definition.
func yield(t api.Table, me int, near []api.Near, frame int) api.Table {
	var out api.Table
	for _, u := range t.Uses {
		keep := true
		for _, n := range near {
			for _, g := range n.Told.Grants {
				if (n.Frame == frame || n.Frame == frame-1) && g.Cell == u.Cell && g.Peer != me && g.Until >= frame && better(g.Stamp, g.Peer, u.Stamp, me) {
					keep = false
				}
			}
		}
		if keep {
			out.Uses = append(out.Uses, u)
		}
	}
	for _, g := range t.Grants {
		keep := true
		for _, n := range near {
			for _, u := range n.Told.Uses {
				if (n.Frame == frame || n.Frame == frame-1) && u.Cell == g.Cell && n.Told.From != g.Peer && better(u.Stamp, n.Told.From, g.Stamp, g.Peer) {
					keep = false
				}
			}
		}
		if keep {
			out.Grants = append(out.Grants, g)
		}
	}
	out.Asks = t.Asks
	return out
}

// The examples of the chapter.
func TestExamples(t *testing.T) {
	one := api.Table{Uses: []api.Use{{Cell: cell(2, 5), Peer: 0, Stamp: 7}}}
	three := api.Table{Grants: []api.Grant{{Cell: cell(2, 5), Peer: 4, Stamp: 6, Until: 14}}}
	later := api.Table{Grants: []api.Grant{{Cell: cell(2, 5), Peer: 4, Stamp: 7, Until: 14}}}
	hears := [][]bool{{false, true, false, false, false}, {true, false, false, true, false}, {false, false, false, false, false}, {false, true, false, false, true}, {false, false, false, true, false}}
	if c := claims.Clashes(hears, []api.Table{{}, one, {}, three, {}}, 9); !same(c, []api.Clash{{Cell: cell(2, 5), Listener: 3, First: 4, Second: 1}}) {
		t.Errorf("clashes %v", c)
	}
	told := func(from int, x api.Table) []api.Near {
		return []api.Near{{Frame: 9, Told: api.Beacon{From: from, Uses: x.Uses, Grants: x.Grants}}}
	}
	for _, x := range []struct {
		own  api.Table
		me   int
		near []api.Near
		want api.Table
	}{
		{one, 1, told(3, three), api.Table{}}, {three, 3, told(1, one), three},
		{one, 1, told(3, later), one}, {later, 3, told(1, one), api.Table{}},
	} {
		if y := claims.Yield(x.own, x.me, x.near, 9); !same(y, x.want) {
			t.Errorf("%v of node %d: %v", x.own, x.me, y)
		}
	}
}

// P14.1: N1 compared with its definition; P14.2 (giving up) and P14.5 (again).
func TestYield(t *testing.T) {
	r := rand.New(rand.NewPCG(14, 1))
	gaveUp := 0
	for range 8000 {
		nodes := 1 + r.IntN(4)
		x, near, me, frame := some(r, nodes), around(r, nodes), r.IntN(nodes), 8+r.IntN(4)
		before := fmt.Sprint(x, near)
		y := claims.Yield(x, me, near, frame)
		if !same(y, yield(x, me, near, frame)) {
			t.Fatalf("%v of %d in %d, near %v: %v", x, me, frame, near, y)
		}
		if len(y.Uses)+len(y.Grants) < len(x.Uses)+len(x.Grants) {
			gaveUp++
		}
		if z := claims.Yield(y, me, near, frame); !same(z, y) {
			t.Fatalf("%v again: %v", y, z)
		}
		mixed := append([]api.Near{}, near...)
		r.Shuffle(len(mixed), func(i, k int) { mixed[i], mixed[k] = mixed[k], mixed[i] })
		if z := claims.Yield(x, me, mixed, frame); !same(z, y) {
			t.Fatalf("%v, near %v in another order: %v", x, near, z)
		}
		for i := range y.Uses {
			y.Uses[i].Stamp = -99
		}
		for i := range y.Grants {
			y.Grants[i].Stamp = -99
		}
		for i := range y.Asks {
			y.Asks[i].Peer = -99
		}
		if fmt.Sprint(x, near) != before {
			t.Fatalf("%s has changed", before)
		}
	}
	if gaveUp < 500 {
		t.Errorf("only %d tables give up something", gaveUp)
	}
}

// P14.1: N1 accepts all arguments.
func TestYieldBorders(t *testing.T) {
	wild := api.Table{Uses: []api.Use{{Cell: cell(-5, 99), Peer: -1, Stamp: math.MaxInt}}, Grants: []api.Grant{{Cell: cell(-5, 99), Peer: -7, Stamp: math.MaxInt, Until: math.MinInt}}, Asks: []api.Ask{{Peer: -9}}}
	told := func(frame int) []api.Near {
		return []api.Near{{Frame: frame, Told: api.Beacon{From: math.MinInt, Uses: []api.Use{{Cell: cell(-5, 99), Stamp: math.MinInt}}, Grants: []api.Grant{{Cell: cell(-5, 99), Peer: -2, Stamp: math.MinInt, Until: math.MaxInt}}}}}
	}
	for _, x := range []struct {
		heard, frame int
		gone         bool
	}{
		{9, 9, true}, {8, 9, true}, {7, 9, false}, {10, 9, false}, {math.MinInt, math.MinInt, true}, {math.MaxInt, math.MinInt, false}, {math.MaxInt, math.MaxInt, true},
		{math.MaxInt - 1, math.MaxInt, true}, {math.MinInt, math.MaxInt, false}, {math.MinInt, math.MinInt + 1, true}, {-1, 0, true},
	} {
		y := claims.Yield(wild, 3, told(x.heard), x.frame)
		if (len(y.Uses) == 0) != x.gone || (len(y.Grants) == 0) != x.gone || len(y.Asks) != 1 {
			t.Errorf("heard in %d, in %d: %v", x.heard, x.frame, y)
		}
	}
	if y := claims.Yield(wild, -1, nil, 0); !same(y, wild) {
		t.Errorf("nothing is heard: %v", y)
	}
}

// clashes is Clashes by its definition.
func clashes(hears [][]bool, tables []api.Table, frame int) []api.Clash {
	var out []api.Clash
	for l := range tables {
		for _, g := range tables[l].Grants {
			for c := range tables {
				uses := false
				for _, u := range tables[c].Uses {
					uses = uses || u.Cell == g.Cell
				}
				if g.Until >= frame && c != g.Peer && c != l && hears[l][c] && uses {
					out = append(out, api.Clash{Cell: g.Cell, Listener: l, First: g.Peer, Second: c})
				}
			}
		}
	}
	return out
}

func matrix(r *rand.Rand, n int, symmetric bool) [][]bool {
	m := make([][]bool, n)
	for i := range m {
		m[i] = make([]bool, n)
		for k := range m[i] {
			m[i][k] = r.IntN(3) > 0
			if symmetric && k < i {
				m[i][k] = m[k][i]
			}
			if symmetric && k == i {
				m[i][k] = false
			}
		}
	}
	return m
}

// P14.1: N2; P14.8 (clashes).
func TestClashes(t *testing.T) {
	r := rand.New(rand.NewPCG(14, 2))
	found := 0
	for range 4000 {
		n := r.IntN(6)
		hears := matrix(r, n, false)
		var tables []api.Table
		for range n {
			tables = append(tables, some(r, n+1))
		}
		frame := 7 + r.IntN(5)
		c := claims.Clashes(hears, tables, frame)
		if !same(c, clashes(hears, tables, frame)) {
			t.Fatalf("%v %v in %d: %v", hears, tables, frame, c)
		}
		found += len(c)
		there := map[api.Clash]bool{}
		for _, x := range c {
			there[x] = true
			if x.Listener == x.Second || x.First == x.Second || !hears[x.Listener][x.Second] {
				t.Fatalf("%v %v in %d: %v", hears, tables, frame, x)
			}
		}
		for i := range hears { // hear less, hold less
			for k := range hears[i] {
				hears[i][k] = hears[i][k] && r.IntN(3) > 0
			}
			if len(tables[i].Uses) > 0 && r.IntN(2) == 0 {
				tables[i].Uses = tables[i].Uses[1:]
			}
			if len(tables[i].Grants) > 0 && r.IntN(2) == 0 {
				tables[i].Grants = tables[i].Grants[1:]
			}
		}
		for _, x := range claims.Clashes(hears, tables, frame) {
			if !there[x] {
				t.Fatalf("%v is new", x)
			}
		}
	}
	if found < 500 {
		t.Errorf("only %d clashes", found)
	}
	good := []api.Table{{Grants: []api.Grant{{Peer: 5, Until: 9}}}, {Uses: []api.Use{{}, {}}}}
	if c := claims.Clashes([][]bool{{false, true}, {true, false}}, good, 9); len(c) != 1 {
		t.Errorf("two uses of one node: %v", c)
	}
	for _, hears := range [][][]bool{nil, {{false, true}}, {{false, true}, {true}}, {{false, true}, {true, false, false}}, {{false, true}, nil}, {{false, true}, {true, false}, {false, false}}} {
		if c := claims.Clashes(hears, good, 9); len(c) > 0 {
			t.Errorf("%v: %v", hears, c)
		}
	}
	if c := claims.Clashes(nil, nil, 0); len(c) > 0 {
		t.Errorf("nobody: %v", c)
	}
}

// P14.3 (settling).
func TestSettling(t *testing.T) {
	r := rand.New(rand.NewPCG(14, 3))
	before := 0
	for range 3000 {
		n := 2 + r.IntN(5)
		hears := matrix(r, n, true)
		var tables, after []api.Table
		for range n {
			tables = append(tables, some(r, n))
		}
		frame := 8 + r.IntN(3)
		before += len(claims.Clashes(hears, tables, frame))
		for i := range n {
			var near []api.Near
			for k := range n {
				if hears[i][k] {
					near = append(near, api.Near{Frame: frame - r.IntN(2), Told: api.Beacon{From: k, Uses: tables[k].Uses, Grants: tables[k].Grants, Asks: tables[k].Asks}})
				}
			}
			after = append(after, claims.Yield(tables[i], i, near, frame))
		}
		if c := claims.Clashes(hears, after, frame); len(c) > 0 {
			t.Fatalf("%v %v in %d: %v", hears, tables, frame, c)
		}
	}
	if before < 1000 {
		t.Errorf("only %d clashes before", before)
	}
}

// P14.4 (the best claim), P14.6 (old news) and P14.7 (more news).
func TestNews(t *testing.T) {
	r := rand.New(rand.NewPCG(14, 4))
	for range 4000 {
		n := 2 + r.IntN(3)
		x, near, me, frame := some(r, n), around(r, n), r.IntN(n), 10
		best := x
		best.Uses = []api.Use{{Cell: cell(1, 1), Peer: 0, Stamp: -1}}
		best.Grants = []api.Grant{{Cell: cell(1, 0), Peer: 0, Stamp: -1, Until: 3}}
		if y := claims.Yield(best, me, near, frame); !same(y, best) {
			t.Fatalf("%v of %d, near %v: %v", best, me, near, y)
		}
		var lately []api.Near
		for _, k := range near {
			if k.Frame == frame || k.Frame == frame-1 {
				var lasting []api.Grant
				for _, g := range k.Told.Grants {
					if g.Until >= frame {
						lasting = append(lasting, g)
					}
				}
				k.Told.Grants = lasting
				lately = append(lately, k)
			}
		}
		y := claims.Yield(x, me, near, frame)
		if !same(y, claims.Yield(x, me, lately, frame)) {
			t.Fatalf("%v of %d, near %v: old news count", x, me, near)
		}
		more := claims.Yield(x, me, append(near, around(r, n)...), frame)
		for _, u := range more.Uses {
			if !slices.Contains(y.Uses, u) {
				t.Fatalf("%v of %d, near %v: more news, but %v remains", x, me, near, u)
			}
		}
		for _, g := range more.Grants {
			if !slices.Contains(y.Grants, g) {
				t.Fatalf("%v of %d, near %v: more news, but %v remains", x, me, near, g)
			}
		}
	}
}
