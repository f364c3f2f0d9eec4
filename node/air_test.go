package node_test

import (
	"math/rand/v2"
	"slices"
	"testing"

	"slotmesh/api"
	"slotmesh/beacon"
	"slotmesh/clock"
	"slotmesh/node"
	"slotmesh/queue"
	"slotmesh/seal"
	"slotmesh/wire"
)

// air carries frames between nodes without radios: whoever hears a node catches what it sends, unless the frame is lost.
type air struct {
	t      *testing.T
	r      *rand.Rand
	l      api.Layout
	nodes  []api.Node
	hears  [][]bool
	asn    int
	lost   int                                                  // of a hundred frames
	told   []api.Reading                                        // what the root has received
	before func(n api.Node, f api.Frame, asn, local int, i int) // is called before a node hears a frame
	turns  func(n api.Node, asn int)                            // is called before a node's turn
}

// newAir returns nodes in a row, of which each one hears those that are at most reach away.
func newAir(t *testing.T, seed uint64, nodes, data, reach int) *air {
	t.Helper()
	a := &air{t: t, r: rand.New(rand.NewPCG(41, seed)), l: api.Layout{Nodes: nodes, Data: data}}
	for i := range nodes {
		c := api.Clock{}
		if i > 0 {
			c = api.Clock{Offset: a.r.IntN(1000001), Drift: a.r.IntN(101) - 50}
		}
		n, e := node.New(i, c, 1000000000)
		if e != api.OK {
			t.Fatalf("New(%d): %v", i, e)
		}
		a.nodes = append(a.nodes, n)
		a.hears = append(a.hears, make([]bool, nodes))
		for k := range nodes {
			a.hears[i][k] = i != k && i-k <= reach && k-i <= reach
		}
	}
	return a
}

func (a *air) start(id int) {
	a.t.Helper()
	n, e := node.Start(a.nodes[id], a.l, a.asn)
	if e != api.OK {
		a.t.Fatalf("Start of %d: %v", id, e)
	}
	a.nodes[id] = n
}

// body is that of a frame with a reading.
func body(r api.Reading) []byte {
	var b []byte
	for _, n := range []int{r.Origin, r.Number, r.Kind, r.Value, r.At} {
		b, _ = wire.PutNumber(b, n)
	}
	return b
}

// frameOf returns what a node sends in this slot, if it sends.
func (a *air) frameOf(i int) (api.Frame, bool) {
	n := a.nodes[i]
	f := length(a.l)
	fr, place := a.asn/f, a.asn%f
	d := place - a.l.Nodes
	switch {
	case !n.Up:
	case member(n) && place == i:
		x, b := node.Tell(n, a.l, a.asn)
		a.nodes[i] = x
		raw, e := beacon.Encode(b)
		s, e2 := seal.Seal(api.Frame{Kind: api.FrameBeacon, From: i, To: -1, ASN: a.asn, Body: raw}, x.Ring)
		return s, e == api.OK && e2 == api.OK && b.From == i && b.ASN == a.asn
	case member(n) && d >= 0 && d < a.l.Data:
		at := slices.IndexFunc(n.Table.Uses, func(u api.Use) bool { return u.Cell.Slot == d })
		if r, ok := queue.Head(n.Queue); ok && at >= 0 && n.Table.Uses[at].Peer == n.Route.Parent {
			s, e := seal.Seal(api.Frame{Kind: api.FrameData, From: i, To: n.Route.Parent, ASN: a.asn, Body: body(r)}, n.Ring)
			return s, e == api.OK
		}
	case !member(n) && n.Join.Phase != api.JoinOut && place == f-1 && len(n.Mail) > 0 && fr%4 == i%4:
		raw, _ := beacon.Encode(api.Beacon{From: i, Words: n.Mail[:1]})
		return api.Frame{Kind: api.FrameJoin, From: i, To: n.Join.Sponsor, ASN: a.asn, Body: raw}, true
	}
	return api.Frame{}, false
}

// step is one slot.
func (a *air) step() {
	var frames []api.Frame
	for i := range a.nodes {
		if f, ok := a.frameOf(i); ok {
			frames = append(frames, f)
		}
	}
	for _, f := range frames {
		acked := false
		for i := range a.nodes {
			if !a.hears[i][f.From] || a.r.IntN(100) < a.lost {
				continue
			}
			local, _ := clock.Show(a.nodes[i].Clock, a.asn*10000)
			if a.before != nil {
				a.before(a.nodes[i], f, a.asn, local, i)
			}
			n, ok := node.Hear(a.nodes[i], a.l, f, a.asn, local)
			a.nodes[i] = n
			acked = acked || ok && i == f.To
		}
		if f.Kind == api.FrameData {
			a.nodes[f.From] = node.Acked(a.nodes[f.From], a.l, f, acked && a.r.IntN(100) >= a.lost)
		}
	}
	if a.asn%length(a.l) == a.l.Nodes-1 {
		for i := range a.nodes {
			if a.turns != nil {
				a.turns(a.nodes[i], a.asn)
			}
			a.nodes[i] = node.Turn(a.nodes[i], a.l, a.asn)
		}
	}
	a.told = append(a.told, a.nodes[0].Queue.List...)
	a.nodes[0].Queue = api.Queue{}
	a.asn++
}

func (a *air) run(slots int) {
	for range slots {
		a.step()
	}
}

func (a *air) read(id, value int) api.Reading {
	a.t.Helper()
	n, e := node.Read(a.nodes[id], value, a.asn)
	if e != api.OK {
		a.t.Fatalf("Read of %d: %v", id, e)
	}
	a.nodes[id] = n
	return api.Reading{Origin: id, Number: n.Number, Value: value, At: a.asn}
}

// load lets the root have a new program.
func (a *air) load(version int, program []byte, start int) {
	a.t.Helper()
	n, e := node.Load(a.nodes[0], version, program, start, a.asn/length(a.l))
	if e != api.OK {
		a.t.Fatalf("Load of %d: %v", version, e)
	}
	a.nodes[0] = n
}

// allIn lets all nodes start and join.
func (a *air) allIn() {
	a.t.Helper()
	for i := range a.nodes {
		a.start(i)
	}
	for range 3000 {
		a.step()
		if !slices.ContainsFunc(a.nodes, func(n api.Node) bool { return !member(n) }) {
			return
		}
	}
	a.t.Fatal("not all nodes have joined")
}
