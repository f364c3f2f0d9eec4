package truth_test

import (
	"math"
	"math/rand/v2"
	"slices"
	"testing"

	"slotmesh/api"
	"slotmesh/boot"
	"slotmesh/bound"
	"slotmesh/claims"
	"slotmesh/clock"
	"slotmesh/copies"
	"slotmesh/mesh"
	"slotmesh/node"
	"slotmesh/plane"
	"slotmesh/truth"
)

func member(n api.Node) bool { return n.Up && n.Join.Phase == api.JoinIn }

// down returns a mesh of nodes in a row that were never started.
func down(t *testing.T, n int) api.Mesh {
	t.Helper()
	var nodes []api.Node
	var places []api.Place
	for i := range n {
		c := api.Clock{}
		if i > 0 {
			c = api.Clock{Offset: 1000 * i, Drift: 10*i - 30}
		}
		x, _ := node.New(i, c, 1000000)
		nodes = append(nodes, x)
		places = append(places, api.Place{X: 100 * i})
	}
	m, e := mesh.New(4, 150, nodes, places)
	if e != api.OK {
		t.Fatal(e)
	}
	return m
}

// up returns a mesh of nodes that have run for some slots.
func up(t *testing.T, n, slots int) api.Mesh {
	t.Helper()
	m := down(t, n)
	for i := range n {
		m, _ = mesh.Apply(m, api.Event{Kind: api.CmdStart, Node: i})
	}
	for range slots {
		m, _, _ = mesh.Step(m)
	}
	return m
}

func batteries(m api.Mesh) []int {
	var l []int
	for _, n := range m.Nodes {
		l = append(l, n.Ledger.Left+n.Ledger.Spent)
	}
	return l
}

func same(a, b []api.Finding) bool { return slices.Equal(a, b) }

// The examples of the chapter; P44.8 (nodes that are off).
func TestExamples(t *testing.T) {
	m := down(t, 2)
	m.Nodes[1].Clock = api.Clock{}
	five := []int{5, 5}
	check := func(m api.Mesh, taken []api.Reading, want ...api.Finding) {
		t.Helper()
		if f := truth.Find(m, taken, nil, five); !same(f, want) {
			t.Errorf("%v, want %v", f, want)
		}
	}
	check(m, nil)
	each := copies.Mesh(m)
	for i := range 2 {
		each.Nodes[i].Up, each.Nodes[i].Join.Phase, each.Nodes[i].Route.Parent, each.Nodes[i].Runs = true, api.JoinIn, 1-i, 1
	}
	check(each, nil, api.Finding{Kind: api.FindLoop}, api.Finding{Kind: api.FindLoop, Node: 1})
	each.Nodes[0].Up = false
	check(each, nil)
	each.Nodes[0].Up, each.Nodes[1].Join.Phase = true, api.JoinProved
	check(each, nil)
	r := api.Reading{Origin: 1, Number: 3, Value: 7, At: 8}
	m.Told = []api.Reading{r, r}
	check(m, []api.Reading{r}, api.Finding{Kind: api.FindTwice, Node: 1, Other: 3})
	check(m, nil, api.Finding{Kind: api.FindTwice, Node: 1, Other: 3}, api.Finding{Kind: api.FindFalse, Node: 1, Other: 3})
	m.Told = nil
	m.Nodes[1].Ledger.Spent = 6
	check(m, nil, api.Finding{Kind: api.FindPower, Node: 1})
	m.Nodes[1].Ledger.Spent = 5
	check(m, nil)
}

// P44.1: which meshes are examined.
func TestExamined(t *testing.T) {
	m := down(t, 3)
	m.Nodes[1].Ledger.Spent = 9999999
	m.Nodes[2].Up, m.Nodes[2].Join.Phase, m.Nodes[2].Runs = true, api.JoinIn, 1
	m.Nodes[1].Up, m.Nodes[1].Join.Phase, m.Nodes[1].Runs = true, api.JoinIn, 1
	m.Nodes[2].Table.Grants = []api.Grant{{Peer: 0, Until: math.MaxInt}}
	m.Nodes[1].Table.Uses = []api.Use{{Peer: 2}}
	all := []int{1, 2, 3}
	for _, asn := range []int{0, 999999999} {
		x := m
		x.ASN = asn
		if len(truth.Find(x, nil, nil, all)) == 0 || len(truth.Clashes(x)) != 1 {
			t.Fatalf("the example in %d has no findings", asn)
		}
	}
	for i, change := range []func(*api.Mesh){
		func(m *api.Mesh) { m.Layout.Nodes = 2 }, func(m *api.Mesh) { m.Layout.Data = 0 }, func(m *api.Mesh) { m.Layout.Data = 61 }, func(m *api.Mesh) { m.Nodes = m.Nodes[:2] }, func(m *api.Mesh) { m.Places = m.Places[:2] }, func(m *api.Mesh) { m.Nodes[2].ID = 1 },
		func(m *api.Mesh) { m.Places[1].X = -1 }, func(m *api.Mesh) { m.Range = -1 }, func(m *api.Mesh) { m.Range = 20001 }, func(m *api.Mesh) { m.ASN = -1 }, func(m *api.Mesh) { m.ASN = 1000000000 }, func(m *api.Mesh) { m.ASN = math.MaxInt }, func(m *api.Mesh) { m.ASN = math.MinInt },
		func(m *api.Mesh) { *m = api.Mesh{} }, func(m *api.Mesh) { m.Layout.Nodes = math.MaxInt },
	} {
		x := copies.Mesh(m)
		change(&x)
		if len(truth.Find(x, nil, nil, all)) > 0 || len(truth.Find(x, nil, nil, make([]int, len(x.Nodes)))) > 0 || len(truth.Clashes(x)) > 0 {
			t.Errorf("change %d: it is examined", i)
		}
	}
	for _, l := range [][]int{nil, {1, 2}, {1, 2, 3, 4}} {
		if f := truth.Find(m, nil, nil, l); len(f) > 0 {
			t.Errorf("%d batteries: %v", len(l), f)
		}
	}
	if c := truth.Clashes(m); c[0] != (api.Clash{Listener: 2, First: 0, Second: 1}) {
		t.Errorf("%v", c)
	}
}

// model is what Find returns by its definition, and in order.
func model(m api.Mesh, taken []api.Reading, versions, batteries []int) []api.Finding {
	var f []api.Finding
	add := func(kind, node, other, third int) {
		if x := (api.Finding{Kind: kind, Node: node, Other: other, Third: third}); !slices.Contains(f, x) {
			f = append(f, x)
		}
	}
	frame := m.ASN / (m.Layout.Nodes + m.Layout.Data + 1)
	parent := func(i int) int {
		if i < 0 || i >= len(m.Nodes) || !member(m.Nodes[i]) {
			return -1
		}
		return m.Nodes[i].Route.Parent
	}
	for i, n := range m.Nodes {
		at := parent(i)
		for range m.Nodes {
			if at == i {
				add(1, i, 0, 0)
			}
			at = parent(at)
		}
		if n.Ledger.Spent > batteries[i] {
			add(6, i, 0, 0)
		}
		if !n.Up {
			continue
		}
		version, _, e := boot.Select(n.Program)
		if e != api.OK || version != n.Runs || n.Runs != 1 && !slices.Contains(versions, n.Runs) {
			add(7, i, 0, 0)
		}
		if !member(n) {
			continue
		}
		shown, e := clock.Show(n.Clock, 10000*m.ASN)
		late := 10000*m.ASN - shown
		span, e2 := bound.Grow(n.Time.Span, shown)
		if e == api.OK && (i == 0 && late != 0 || i > 0 && e2 == api.OK && (late < span.Low || late > span.High)) {
			add(5, i, 0, 0)
		}
		for _, g := range n.Table.Grants {
			for k, c := range m.Nodes {
				if g.Until >= frame && member(c) && k != i && k != g.Peer && plane.Near(m.Places[i], m.Places[k], m.Range) && slices.ContainsFunc(c.Table.Uses, func(u api.Use) bool { return u.Cell == g.Cell }) {
					add(2, i, g.Peer, k)
				}
			}
		}
	}
	for i, r := range m.Told {
		if slices.ContainsFunc(m.Told[:i], func(x api.Reading) bool { return x.Origin == r.Origin && x.Number == r.Number }) {
			add(3, r.Origin, r.Number, 0)
		}
		if !slices.Contains(taken, r) {
			add(4, r.Origin, r.Number, 0)
		}
	}
	slices.SortFunc(f, func(a, b api.Finding) int {
		return slices.Compare([]int{a.Kind, a.Node, a.Other, a.Third}, []int{b.Kind, b.Node, b.Other, b.Third})
	})
	return f
}

// odd changes many things of a mesh.
func odd(r *rand.Rand, m api.Mesh) api.Mesh {
	m = copies.Mesh(m)
	for range r.IntN(8) {
		n := &m.Nodes[r.IntN(len(m.Nodes))]
		switch r.IntN(13) {
		case 0:
			n.Up = !n.Up
		case 1:
			n.Join.Phase = r.IntN(4)
		case 2, 3:
			n.Route.Parent = r.IntN(len(m.Nodes)+2) - 1
		case 4:
			n.Table.Uses = []api.Use{{Cell: api.Cell{Slot: r.IntN(2)}}, {Cell: api.Cell{Slot: r.IntN(2)}}}
		case 5:
			n.Table.Grants = []api.Grant{{Cell: api.Cell{Slot: r.IntN(2)}, Peer: r.IntN(5), Until: m.ASN/9 + r.IntN(3) - 1}, {Cell: api.Cell{Slot: r.IntN(2)}, Peer: r.IntN(5), Until: 9999}}
		case 6:
			n.Time.Span.Low += r.IntN(3000) - 1500
		case 7:
			n.Clock = []api.Clock{{Drift: 51}, {Offset: 1}, n.Clock}[r.IntN(3)]
		case 8:
			n.Time.Span.At = []int{math.MaxInt, n.Time.Span.At}[r.IntN(2)]
		case 9:
			n.Ledger.Spent += r.IntN(3) - 1
		case 10:
			n.Runs = r.IntN(4)
		case 11:
			if l, e := boot.Install(n.Program, 2, nil); e == api.OK {
				l, _ = boot.Mark(l[len(l)-1], 2, api.MarkStart)
				n.Program = l[1]
				n.Runs = 1 + r.IntN(2)
			}
		default:
			n.Program.Bytes[r.IntN(3)] ^= 1
		}
	}
	for range r.IntN(6) {
		m.Told = append(m.Told, api.Reading{Origin: r.IntN(3), Number: 1 + r.IntN(3), Value: r.IntN(2)})
	}
	return m
}

// P44.1, compared with the model; P44.2 (order) and P44.9 (more taken).
func TestFind(t *testing.T) {
	r := rand.New(rand.NewPCG(44, 1))
	kinds := map[int]int{}
	for range 6 {
		base := up(t, 5, 300+r.IntN(400))
		for range 700 {
			m := odd(r, base)
			var taken []api.Reading
			for range r.IntN(8) {
				taken = append(taken, api.Reading{Origin: r.IntN(3), Number: 1 + r.IntN(3), Value: r.IntN(2), Kind: r.IntN(5) / 4})
			}
			versions := []int{2, 3}[:r.IntN(3)]
			power := batteries(base)
			for i := range power {
				power[i] = base.Nodes[i].Ledger.Spent + r.IntN(2)
			}
			f := truth.Find(m, taken, versions, power)
			if want := model(m, taken, versions, power); !same(f, want) {
				t.Fatalf("%v, want %v", f, want)
			}
			there := map[api.Finding]bool{}
			for _, x := range f {
				kinds[x.Kind]++
				if there[x] {
					t.Fatalf("%v twice", x)
				}
				there[x] = true
			}
			for i := range power {
				power[i] += r.IntN(2)
			}
			for _, x := range truth.Find(m, append(taken, m.Told...), append([]int{3}, versions...), power) {
				if !there[x] {
					t.Fatalf("%v is new", x)
				}
			}
			hears, _ := plane.Hears(m.Places, m.Range)
			var tables []api.Table
			for _, n := range m.Nodes {
				if !member(n) {
					n.Table = api.Table{}
				}
				tables = append(tables, n.Table)
			}
			c := truth.Clashes(m)
			if !slices.Equal(c, claims.Clashes(hears, tables, m.ASN/10)) {
				t.Fatalf("%v", c)
			}
			for _, x := range c {
				if !there[api.Finding{Kind: api.FindClash, Node: x.Listener, Other: x.First, Third: x.Second}] {
					t.Fatalf("%v is not found", x)
				}
			}
		}
	}
	for kind := 1; kind <= 7; kind++ {
		if kinds[kind] < 50 {
			t.Errorf("the kind %d only %d times", kind, kinds[kind])
		}
	}
}

// P44.1: AR3; P44.5 (readings).
func TestTold(t *testing.T) {
	m := api.Mesh{Told: []api.Reading{{Origin: 1, Number: 2}, {Origin: 1, Number: 2, Value: 7}, {Origin: 2, Number: 1}, {Origin: -5, Number: math.MaxInt}}}
	for _, x := range [][3]int{{1, 2, 2}, {2, 1, 1}, {1, 1, 0}, {-5, math.MaxInt, 1}, {0, 0, 0}} {
		if n := truth.Told(m, x[0], x[1]); n != x[2] {
			t.Errorf("%v: %d", x, n)
		}
	}
}

// P44.3 (loops), P44.4 (clashes), P44.6 (time) and P44.7 (energy, programs), each alone.
func TestEachAlone(t *testing.T) {
	m := up(t, 4, 900)
	for i, n := range m.Nodes {
		if !member(n) {
			t.Fatalf("node %d is no member", i)
		}
	}
	power := batteries(m)
	find := func(change func(*api.Mesh)) []api.Finding {
		x := copies.Mesh(m)
		change(&x)
		return truth.Find(x, nil, []int{9}, power)
	}
	frame := m.ASN / 9
	for i, x := range []struct {
		change func(*api.Mesh)
		want   []api.Finding
	}{
		{func(*api.Mesh) {}, nil},
		{func(m *api.Mesh) { m.Nodes[1].Route.Parent, m.Nodes[2].Route.Parent, m.Nodes[3].Route.Parent = 2, 1, 2 }, []api.Finding{{Kind: 1, Node: 1}, {Kind: 1, Node: 2}}},
		{func(m *api.Mesh) { m.Nodes[3].Route.Parent = 3 }, []api.Finding{{Kind: 1, Node: 3}}},
		{func(m *api.Mesh) { m.Nodes[3].Route.Parent = 3; m.Nodes[3].Join.Phase = 0 }, nil},
		{func(m *api.Mesh) {
			m.Nodes[1].Table.Grants, m.Nodes[2].Table.Uses = []api.Grant{{Peer: 0, Until: frame}}, []api.Use{{Peer: 3}}
		}, []api.Finding{{Kind: 2, Node: 1, Other: 0, Third: 2}}},
		{func(m *api.Mesh) {
			m.Nodes[1].Table.Grants, m.Nodes[2].Table.Uses = []api.Grant{{Peer: 0, Until: frame - 1}}, []api.Use{{Peer: 3}}
		}, nil},
		{func(m *api.Mesh) {
			m.Nodes[1].Table.Grants, m.Nodes[3].Table.Uses = []api.Grant{{Peer: 0, Until: frame}}, []api.Use{{Peer: 3}}
		}, nil},
		{func(m *api.Mesh) { m.Nodes[2].Clock.Offset += 100000 }, []api.Finding{{Kind: 5, Node: 2}}},
		{func(m *api.Mesh) { m.Nodes[0].Clock.Offset++ }, []api.Finding{{Kind: 5, Node: 0}}},
		{func(m *api.Mesh) { m.Nodes[0].Clock.Offset, m.Nodes[0].Up = 1, false }, nil},
		{func(m *api.Mesh) { m.Nodes[3].Ledger.Spent = power[3] + 1 }, []api.Finding{{Kind: 6, Node: 3}}},
		{func(m *api.Mesh) { m.Nodes[3].Ledger.Spent, m.Nodes[3].Up = power[3]+1, false }, []api.Finding{{Kind: 6, Node: 3}}},
		{func(m *api.Mesh) { m.Nodes[3].Runs = 9 }, []api.Finding{{Kind: 7, Node: 3}}},
		{func(m *api.Mesh) { m.Nodes[3].Program, _ = boot.Format(9, nil); m.Nodes[3].Runs = 9 }, nil},
		{func(m *api.Mesh) { m.Nodes[3].Program, _ = boot.Format(8, nil); m.Nodes[3].Runs = 8 }, []api.Finding{{Kind: 7, Node: 3}}},
		{func(m *api.Mesh) { m.Nodes[3].Program = api.Flash{} }, []api.Finding{{Kind: 7, Node: 3}}},
		{func(m *api.Mesh) { m.Nodes[3].Program, m.Nodes[3].Up = api.Flash{}, false }, nil},
	} {
		if f := find(x.change); !same(f, x.want) {
			t.Errorf("change %d: %v, want %v", i, f, x.want)
		}
	}
	n := m.Nodes[2]
	shown, _ := clock.Show(n.Clock, 10000*m.ASN)
	late := 10000*m.ASN - shown
	grown, _ := bound.Grow(api.Span{At: n.Time.Span.At}, shown)
	for _, d := range []int{-1, 0, 1} { // spans that just contain the difference, or just do not
		low := find(func(m *api.Mesh) { m.Nodes[2].Time.Span.Low, m.Nodes[2].Time.Span.High = late+grown.High+d, late+9999 })
		high := find(func(m *api.Mesh) { m.Nodes[2].Time.Span.Low, m.Nodes[2].Time.Span.High = late-9999, late-grown.High-d })
		if (len(low) > 0) != (d > 0) || (len(high) > 0) != (d > 0) {
			t.Errorf("%d: %v and %v", d, low, high)
		}
	}
}
