package node_test

import (
	"math"
	"math/rand/v2"
	"slices"
	"testing"

	"slotmesh/api"
	"slotmesh/beacon"
	"slotmesh/boot"
	"slotmesh/copies"
	"slotmesh/node"
	"slotmesh/seal"
)

func encode(t *testing.T, b api.Beacon) []byte {
	t.Helper()
	x, e := beacon.Encode(b)
	if e != api.OK {
		t.Fatalf("%v: %v", b, e)
	}
	return x
}

// scribble changes all the memory of a node.
func scribble(n api.Node) {
	for i := range n.Half {
		n.Half[i].Nonce = -9
	}
	for i := range n.Table.Uses {
		n.Table.Uses[i].Stamp = -9
	}
	for i := range n.Table.Grants {
		n.Table.Grants[i].Stamp = -9
	}
	for i := range n.Table.Asks {
		n.Table.Asks[i].Peer = -9
	}
	for i := range n.Near {
		scribbleBeacon(n.Near[i].Told)
		n.Near[i].Frame = -9
	}
	for i := range n.Links {
		n.Links[i].Sent = -9
	}
	for i := range n.Below {
		n.Below[i].Seq = -9
	}
	for i := range n.Queue.List {
		n.Queue.List[i].Value = -9
	}
	for i := range n.Seen {
		for k := range n.Seen[i].Sets {
			n.Seen[i].Sets[k].Low = -9
		}
		n.Seen[i].Origin = -9
	}
	for i := range n.Mail {
		n.Mail[i].Key = -9
	}
	for i := range n.Got {
		n.Got[i] = -9
	}
	for i := range n.Spread.Pages {
		n.Spread.Pages[i][0]++
		if len(n.Spread.Proofs[i]) > 0 {
			n.Spread.Proofs[i][0]++
		}
	}
	for i := range n.Spread.Rows {
		n.Spread.Rows[i].Data[0]++
	}
	for i := range n.Spread.Proof {
		n.Spread.Proof[i]++
	}
	if len(n.Store.Bytes) > 0 {
		n.Store.Bytes[0]++
	}
	if len(n.Program.Bytes) > 0 {
		n.Program.Bytes[0]++
	}
}

func scribbleBeacon(b api.Beacon) {
	for i := range b.Uses {
		b.Uses[i].Stamp = -9
	}
	for i := range b.Grants {
		b.Grants[i].Stamp = -9
	}
	for i := range b.Asks {
		b.Asks[i].Peer = -9
	}
	for i := range b.Below {
		b.Below[i].Seq = -9
	}
	for i := range b.Words {
		b.Words[i].Key = -9
	}
	for i := range b.Mail {
		b.Mail[i].Key = -9
	}
	for i := range b.Got {
		b.Got[i] = -9
	}
	for i := range b.Block.Data {
		b.Block.Data[i]++
	}
	for i := range b.Block.Proof {
		b.Block.Proof[i]++
	}
}

// odd changes something of a node, so that it is in a state that is rare, or not possible at all.
func odd(r *rand.Rand, n api.Node, l api.Layout, asn int) api.Node {
	n = copies.Node(n)
	fr := asn / length(l)
	word := func() api.Word {
		return api.Word{Kind: 1 + r.IntN(4), Stranger: r.IntN(l.Nodes), Sponsor: []int{n.ID, r.IntN(l.Nodes), r.IntN(l.Nodes)}[r.IntN(3)], Nonce: r.IntN(5), Challenge: r.IntN(3), Key: 1000000 + r.IntN(l.Nodes), Ring: n.Ring}
	}
	for range 1 + r.IntN(2) {
		switch r.IntN(30) {
		case 0:
			n.Up = false
		case 1:
			n.Join.Phase = r.IntN(5) - 1
		case 2:
			n.Join.Sponsor, n.Join.Phase, n.Join.Since = r.IntN(l.Nodes), 1+r.IntN(2), max(0, fr-11-r.IntN(3))
		case 3:
			n.Time = api.TimeState{Hops: 60, Source: -1}
		case 4:
			n.Time.Span.Low -= 1950
			n.Time.Span.High += []int{1950, 2030}[r.IntN(2)]
		case 5:
			n.Ring = []api.Ring{{}, {First: asn / 2000, Next: asn/2000 + 1}, {First: 0, Next: asn / 2000}, {First: asn/2000 + 1, Next: asn/2000 + 2}}[r.IntN(4)]
		case 6:
			n.Route.Parent = r.IntN(l.Nodes+1) - 1
		case 7:
			for i := range r.IntN(17) {
				n.Queue.List = append(n.Queue.List, api.Reading{Origin: (n.ID + 1) % l.Nodes, Number: 100 + i})
			}
		case 8:
			n.Store.Bytes[[]int{0, 5, 6, 20}[r.IntN(4)]] ^= 1
		case 9:
			n.Links = append(n.Links, api.Link{Peer: 2})
		case 10:
			n.Below = append(n.Below, api.Down{Target: 59, Next: 1, Until: fr - r.IntN(3)})
		case 11:
			for i := range n.Near {
				n.Near[i].Frame += r.IntN(6) - 4
			}
			if len(n.Near) > 0 && r.IntN(3) == 0 {
				n.Near = append(n.Near, n.Near[0])
			}
		case 12:
			n.Half = nil
			for i := range 5 {
				if id := i; id < l.Nodes && id != n.ID && r.IntN(2) == 0 {
					n.Half = append(n.Half, api.Half{Stranger: id, Nonce: r.IntN(900), Challenge: r.IntN(3), Until: fr - 2 + r.IntN(6), Proved: true, Key: 1000000 + []int{id, 1}[r.IntN(2)]})
				}
			}
		case 13:
			for range r.IntN(10) {
				n.Mail = append(n.Mail, word())
			}
		case 14:
			n.Got = append(n.Got, r.IntN(l.Nodes), r.IntN(l.Nodes))
		case 15:
			n.Since, n.Kept = fr-r.IntN(20), r.IntN(2) == 0
		case 16:
			n.Fresh = n.Since + r.IntN(3) - 1
		case 17:
			n.Number = []int{-1, 1000000000, math.MaxInt, n.Number + 1}[r.IntN(4)]
		case 18:
			n.ID = r.IntN(l.Nodes + 2)
		case 19:
			n.Clock.Drift = []int{51, 0}[r.IntN(2)]
		case 20:
			n.Runs = r.IntN(5)
		case 21:
			if l, e := boot.Install(n.Program, 2+r.IntN(6), []byte{7, byte(r.Uint32())}); e == api.OK {
				n.Program = l[len(l)-1-r.IntN(2)*r.IntN(len(l))]
			}
		case 22:
			if l, e := boot.Mark(n.Program, []int{n.Runs, n.Spread.Notice.Version}[r.IntN(2)], 1+r.IntN(3)); e == api.OK {
				n.Program = l[1]
			}
		case 23:
			if n.Spread.Notice.Version > 0 {
				n.Spread.Notice.Start = asn + r.IntN(3) - 1
			}
		case 24:
			n.Spread.Timer.Seed = []int{-1, 3}[r.IntN(2)]
		case 25:
			n.Table.Uses = append(n.Table.Uses, api.Use{Cell: api.Cell{Slot: l.Data - 1}, Peer: r.IntN(l.Nodes)})
		case 26:
			for s := range l.Data {
				n.Table.Uses = append(n.Table.Uses[:min(s, len(n.Table.Uses)):s], api.Use{Cell: api.Cell{Slot: s}, Peer: max(0, n.Route.Parent), Stamp: fr})
			}
			n.Table.Grants, n.Table.Asks = nil, nil
		case 27:
			n.Join.Tries = []int{255, 254, -1}[r.IntN(3)]
		case 28:
			n.Join.Phase, n.Boot = api.JoinOut, []int{1000000, 1000001, n.Boot}[r.IntN(3)]
		default:
			n.Queue.List = nil
			n.Seen = append(n.Seen, api.Seen{Origin: 59})
		}
	}
	return n
}

// oddFrame changes something of a frame; a changed beacon is sealed again.
func oddFrame(r *rand.Rand, f api.Frame, n api.Node, l api.Layout, asn int) api.Frame {
	f = copies.Frame(f)
	b, e := beacon.Decode(f.Body)
	if e == api.OK && r.IntN(3) > 0 {
		word := api.Word{Kind: 1 + r.IntN(4), Stranger: []int{n.ID, f.From, r.IntN(l.Nodes)}[r.IntN(3)], Sponsor: []int{n.ID, f.From, r.IntN(l.Nodes)}[r.IntN(3)], Nonce: []int{n.Join.Nonce, 3}[r.IntN(2)], Challenge: r.IntN(3), Key: 1000000 + n.ID, Ring: api.Ring{First: asn / 2000, Next: asn/2000 + 1 + r.IntN(2)}}
		switch r.IntN(14) {
		case 0:
			b.From = r.IntN(l.Nodes)
		case 1:
			b.ASN += r.IntN(3) - 1
		case 2:
			b.Parent = n.ID
			b.Below = []api.Down{{Target: []int{b.From, 1, 2}[r.IntN(3)], Seq: 4}}
		case 3:
			b.Fresh += r.IntN(30)
		case 4:
			b.Ring = api.Ring{First: asn / 2000, Next: asn/2000 + 1 + r.IntN(3)}
		case 5:
			b.Words = []api.Word{word}
		case 6:
			other := word
			other.Kind, word.Kind, word.Stranger, word.Sponsor, other.Stranger, other.Sponsor = 2, 4, n.ID, b.From, n.ID, b.From
			other.Nonce, word.Nonce = n.Join.Nonce, n.Join.Nonce
			b.Words = [][]api.Word{{other, word}, {word, other}, {other, word, word}, {other}, {word}}[r.IntN(5)]
			if r.IntN(3) == 0 {
				b.Bound, b.Hops = 1, 60
			}
		case 7:
			b.Mail = []api.Word{word}
		case 8:
			b.Got, b.Parent = []int{r.IntN(l.Nodes), r.IntN(l.Nodes)}, []int{n.ID, n.ID, -1}[r.IntN(3)]
		case 9:
			b.Notice.Version += r.IntN(2)
			b.Pages = r.IntN(4)
		case 10:
			b.Has = true
			b.Block = api.Block{Page: r.IntN(2), Seed: r.IntN(20), Data: make([]byte, 16)}
		case 11:
			b.Bound, b.Hops = r.IntN(2001), r.IntN(61)
		case 12:
			b.Mail, b.Parent, b.Got = []api.Word{word}, n.ID, []int{word.Stranger}
		default:
			b.Route.Rank = r.IntN(500)
		}
		if x, e := beacon.Encode(b); e == api.OK {
			f.Body = x
		}
		return f
	}
	switch r.IntN(9) {
	case 0:
		f.Kind = r.IntN(6)
	case 1:
		f.From = r.IntN(l.Nodes+3) - 1
	case 2:
		f.To = []int{n.ID, r.IntN(l.Nodes)}[r.IntN(2)]
	case 3:
		f.ASN += r.IntN(3) - 1
	case 4:
		f.Key += r.IntN(3) - 1
	case 5:
		f.Body = f.Body[:r.IntN(len(f.Body)+1)]
	case 6:
		f.Body = append(f.Body, 0)
	case 7:
		kind, value := r.IntN(2), r.IntN(70)
		f.Kind, f.To, f.Body = api.FrameData, n.ID, body(api.Reading{Origin: 1 + r.IntN(l.Nodes), Number: r.IntN(4), Kind: kind, Value: []int{value, 64*r.IntN(9) + 2}[kind], At: []int{asn, 1000002, -1}[r.IntN(3)]})
		f, _ = seal.Seal(f, api.Ring{First: 0, Next: 500000})
	default:
		w := api.Word{Kind: []int{1, 1, 3, 2}[r.IntN(4)], Stranger: f.From, Sponsor: n.ID, Nonce: r.IntN(4)}
		if w.Stranger == w.Sponsor || w.Stranger < 0 || w.Stranger > 59 {
			w.Stranger = (n.ID + 1) % l.Nodes
		}
		f.Kind, f.To = api.FrameJoin, n.ID
		words := [][]api.Word{{w}, {w, w}, nil, {{Kind: 1, Stranger: n.ID, Sponsor: w.Stranger}}}[r.IntN(4)]
		if x, e := beacon.Encode(api.Beacon{From: []int{w.Stranger, 0}[r.IntN(2)], Boot: 5, Words: words}); e == api.OK {
			f.Body = x
		}
	}
	return f
}

// nets returns nets in which nodes join, trade, tell readings, fail and load programs; each of them runs through its life.
func nets(t *testing.T, each func(a *air)) {
	for seed := range 3 {
		a := newAir(t, uint64(10+seed), []int{4, 6, 3}[seed], []int{4, 7, 2}[seed], []int{1, 2, 2}[seed])
		each(a)
		for i := range a.nodes {
			a.start(i)
			a.run(3)
		}
		for slot := range 2200 {
			a.lost = []int{0, 25, 0, 3}[slot/200%4]
			a.step()
			id := 1 + a.r.IntN(len(a.nodes)-1)
			switch {
			case slot == 900:
				a.load(2+seed, make([]byte, 300), a.asn+300)
			case slot%37 == 0 && a.nodes[id].Up && len(a.nodes[id].Queue.List) < 10:
				a.read(id, slot)
			case slot == 1600:
				a.nodes[id].Up = false
			}
		}
	}
}

// P41.1: AO3, compared with the model.
func TestHear(t *testing.T) {
	r := rand.New(rand.NewPCG(41, 100))
	nets(t, func(a *air) {
		a.before = func(n api.Node, f api.Frame, asn, local, i int) {
			for k := range 4 {
				x, g, at := n, f, asn
				if k > 0 && r.IntN(2) == 0 {
					x = odd(r, n, a.l, asn)
				}
				if k > 0 && r.IntN(3) > 0 {
					g = oddFrame(r, f, x, a.l, asn)
				}
				if k == 3 && r.IntN(10) == 0 {
					at = []int{asn + 1, asn + length(a.l), -1, 1000000001, math.MinInt, math.MaxInt}[r.IntN(6)]
				}
				before, body := copies.Node(x), slices.Clone(g.Body)
				y, acked := node.Hear(x, a.l, g, at, local)
				if want, wa := modelHear(x, a.l, g, at, local); !same(y, want) || acked != wa {
					t.Fatalf("%v hears %v in %d: %v %v, want %v %v", brief(x), g, at, brief(y), acked, brief(want), wa)
				}
				scribble(y)
				if !same(x, before) || !slices.Equal(g.Body, body) {
					t.Fatal("memory is shared")
				}
			}
		}
	})
	a := newAir(t, 20, 2, 3, 1)
	a.allIn()
	for a.asn%6 != 0 {
		a.step()
	}
	f, ok := a.frameOf(0)
	if !ok {
		t.Fatal("the root tells nothing")
	}
	for _, l := range []api.Layout{{}, {Nodes: 2}, {Nodes: 61, Data: 3}, {Nodes: 2, Data: 61}, {Nodes: -1, Data: 3}} {
		if x, acked := node.Hear(a.nodes[1], l, f, a.asn, 0); acked || !same(x, a.nodes[1]) {
			t.Errorf("%v", l)
		}
	}
}

// brief is a node without its memories.
func brief(n api.Node) api.Node {
	n.Store.Bytes, n.Program.Bytes = nil, nil
	return n
}

// P41.1: AO5, compared with the model.
func TestTurn(t *testing.T) {
	r := rand.New(rand.NewPCG(41, 101))
	nets(t, func(a *air) {
		a.turns = func(n api.Node, asn int) {
			for k := range 10 {
				x, at, l := n, asn, a.l
				if k > 0 {
					x = odd(r, n, a.l, asn)
				}
				if r.IntN(20) == 0 {
					at = []int{asn + 1, asn + 5*length(a.l), -1, 1000000001, 1000000000, math.MaxInt, math.MinInt, math.MaxInt/10000*2 + 1, asn + 2000}[r.IntN(9)]
				}
				if r.IntN(50) == 0 {
					l = api.Layout{Nodes: a.l.Nodes}
				}
				before := copies.Node(x)
				y := node.Turn(x, l, at)
				if want := modelTurn(x, l, at); !same(y, want) {
					t.Fatalf("%v in %d: %v, want %v", brief(x), at, brief(y), brief(want))
				}
				scribble(y)
				if !same(x, before) {
					t.Fatal("memory is shared")
				}
			}
		}
	})
}

// P41.1: AO6, compared with the model; P41.6 (beacons).
func TestTell(t *testing.T) {
	r := rand.New(rand.NewPCG(41, 102))
	told := 0
	nets(t, func(a *air) {
		a.turns = func(n api.Node, asn int) {
			for k := range 6 {
				x, at, l := n, asn/length(a.l)*length(a.l)+n.ID+length(a.l), a.l
				if k > 0 {
					x = odd(r, n, a.l, asn)
				}
				if r.IntN(10) == 0 {
					at = []int{asn, -1, 1000000001, 1000000000, math.MaxInt, math.MinInt, math.MaxInt/10000*2 + 1, asn + 1000, 0}[r.IntN(9)]
				}
				if r.IntN(50) == 0 {
					l = api.Layout{Data: 3}
				}
				before := copies.Node(x)
				y, b := node.Tell(x, l, at)
				want, wb := modelTell(x, l, at)
				if !same(y, want) || !sameValue(b, wb) {
					t.Fatalf("%v in %d: %v %v, want %v %v", brief(x), at, brief(y), b, brief(want), wb)
				}
				if k == 0 && b.From == n.ID && b.ASN == at && b.Bound+b.From > 0 {
					told++
					encode(t, b)
					if !slices.Equal(b.Uses, y.Table.Uses) || !slices.Equal(b.Grants, y.Table.Grants) {
						t.Fatalf("%v tells %v", brief(y), b)
					}
				}
				scribbleBeacon(b)
				if !same(y, want) {
					t.Fatal("the beacon shares memory with the node")
				}
				scribble(y)
				if !same(x, before) {
					t.Fatal("memory is shared")
				}
			}
		}
	})
	if told < 100 {
		t.Errorf("only %d beacons", told)
	}
}

// P41.1: AO3: the limits of the numbers of a reading.
func TestReadings(t *testing.T) {
	a := newAir(t, 30, 3, 4, 2)
	a.allIn()
	good := [5]int{1, 5, 0, 7, 9}
	for i, limit := range [5][2]int{{0, 59}, {1, 1000000000}, {0, 1}, {0, 10000000000000}, {0, 1000000000}} {
		for _, n := range []int{limit[0] - 1, limit[0], limit[1], limit[1] + 1, -5} {
			x := good
			x[i] = n
			f := api.Frame{Kind: api.FrameData, From: 2, ASN: a.asn, Body: body(api.Reading{Origin: x[0], Number: x[1], Kind: x[2], Value: x[3], At: x[4]})}
			for id := range 2 {
				f.To = id
				f, _ = seal.Seal(f, a.nodes[id].Ring)
				y, acked := node.Hear(a.nodes[id], a.l, f, a.asn, 0)
				want, wa := modelHear(a.nodes[id], a.l, f, a.asn, 0)
				if ok := n >= limit[0] && n <= limit[1]; acked != ok && (id == 0 || i != 0) || acked != wa || !same(y, want) {
					t.Errorf("the number %d is %d: %v", i, n, acked)
				}
			}
		}
	}
}

// P41.1: AO3: the mail has at most eight words, also if more were there.
func TestMail(t *testing.T) {
	a := newAir(t, 31, 3, 4, 2)
	a.allIn()
	a.run(60)
	for a.asn%length(a.l) != 0 {
		a.step()
	}
	f, ok := a.frameOf(0)
	b, _ := beacon.Decode(f.Body)
	n := a.nodes[1]
	if !ok || n.Route.Parent != 0 {
		t.Fatalf("%v", n.Route)
	}
	for many := range 12 {
		for first := range 3 {
			x := copies.Node(n)
			x.Mail = nil
			for i := range many {
				x.Mail = append(x.Mail, api.Word{Kind: 4, Stranger: 2, Sponsor: first, Nonce: i})
			}
			for _, nonce := range []int{0, many - 1, 77} {
				b.Mail = []api.Word{{Kind: 4, Stranger: 2, Sponsor: 1, Nonce: max(0, nonce)}}
				g := f
				g.Body = encode(t, b)
				y, _ := node.Hear(x, a.l, g, a.asn, 0)
				want, _ := modelHear(x, a.l, g, a.asn, 0)
				if !same(y, want) || many < 9 && len(y.Mail) > 8 {
					t.Fatalf("%d words: %v, want %v", many, y.Mail, want.Mail)
				}
			}
		}
	}
}

// bank writes a program with marks into a bank of a memory, as an installation and marks do.
func bank(t *testing.T, f api.Flash, second bool, version int, marks int) api.Flash {
	t.Helper()
	g, e := boot.Format(version, []byte{byte(version)})
	if e != api.OK {
		t.Fatal(e)
	}
	half := len(g.Bytes) / 2
	for m := 1; m <= 3; m++ {
		g.Bytes[14+m] = byte(255 * (1 - marks>>(m-1)&1))
	}
	f = copies.Flash(f)
	if second {
		copy(f.Bytes[half:], g.Bytes[:half])
	} else {
		copy(f.Bytes[:half], g.Bytes[:half])
	}
	return f
}

// P41.1: AO5, step 8, for memories with all marks.
func TestPrograms(t *testing.T) {
	r := rand.New(rand.NewPCG(41, 103))
	l := api.Layout{Nodes: 3, Data: 4}
	n := started(t, fresh(t, 1), l, 0)
	root := started(t, fresh(t, 0), l, 0)
	loaded := map[int]api.Spread{}
	for version := 2; version < 7; version++ {
		x, e := node.Load(root, version, []byte{1, 2, byte(version)}, 400, 0)
		if e != api.OK {
			t.Fatal(e)
		}
		loaded[version] = x.Spread
	}
	both := copies.Node(n) // the program that is started is not the one that is selected then
	both.Program = bank(t, bank(t, both.Program, false, 6, 3), true, 3, 0)
	both.Spread = loaded[3]
	if x := node.Turn(both, l, 402); x.Runs != 6 || x.Kept || x.Since != 50 || boot.Marks(x.Program, 3) != 1 {
		t.Errorf("runs %d, %v", x.Runs, x.Kept)
	}
	started, kept, dropped, installed := 0, 0, 0, 0
	for range 8000 {
		x := copies.Node(n)
		x.Program = bank(t, x.Program, false, 1+r.IntN(6), r.IntN(8))
		if r.IntN(3) > 0 {
			x.Program = bank(t, x.Program, true, 1+r.IntN(6), r.IntN(8))
		}
		if r.IntN(20) == 0 {
			x.Program.Bytes[3] ^= 8
		}
		x.Runs, x.Kept, x.Fresh, x.Since = 1+r.IntN(6), r.IntN(2) == 0, 40+r.IntN(20), 40+r.IntN(20)
		x.Spread.Notice.Version = r.IntN(7)
		if s, ok := loaded[x.Spread.Notice.Version]; ok && r.IntN(3) > 0 {
			x.Spread = s
		}
		if r.IntN(3) == 0 {
			x.Join.Phase, x.Time, x.Ring = api.JoinIn, api.TimeState{Synced: true, Hops: 1}, api.Ring{First: 0, Next: 2}
			x.Route = api.Route{Parent: -1}
		}
		asn := []int{402, 399, 400, 450, 466, 474}[r.IntN(6)]
		y, want := node.Turn(x, l, asn), modelTurn(x, l, asn)
		if !same(y, want) {
			t.Fatalf("%v in %d: %v, want %v", brief(x), asn, brief(y), brief(want))
		}
		switch {
		case y.Runs == x.Spread.Notice.Version && y.Runs != x.Runs && !y.Kept:
			started++
		case y.Kept && !x.Kept && y.Since == x.Since:
			kept++
		case y.Since != x.Since:
			dropped++
		}
		if !sameFlash(x.Program, y.Program) && x.Kept && y.Kept {
			installed++
		}
	}
	if started < 100 || kept < 100 || dropped < 20 || installed < 100 {
		t.Errorf("%d are started, %d kept, %d dropped, %d installed", started, kept, dropped, installed)
	}
}
