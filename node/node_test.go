package node_test

import (
	"bytes"
	"fmt"
	"math"
	"slices"
	"testing"

	"slotmesh/api"
	"slotmesh/boot"
	"slotmesh/copies"
	"slotmesh/custody"
	"slotmesh/image"
	"slotmesh/keyring"
	"slotmesh/node"
	"slotmesh/rank"
	"slotmesh/timesync"
	"slotmesh/tree"
	"slotmesh/trickle"
)

var wild = []int{-1, math.MaxInt, math.MinInt}

func fresh(t *testing.T, id int) api.Node {
	t.Helper()
	n, e := node.New(id, api.Clock{}, 1000)
	if e != api.OK {
		t.Fatalf("New(%d): %v", id, e)
	}
	return n
}

func started(t *testing.T, n api.Node, l api.Layout, asn int) api.Node {
	t.Helper()
	x, e := node.Start(n, l, asn)
	if e != api.OK {
		t.Fatalf("Start of %d: %v", n.ID, e)
	}
	return x
}

// P41.1: AO1.
func TestNew(t *testing.T) {
	for _, id := range []int{0, 1, 59} {
		c := api.Clock{Offset: 7, Drift: -50}
		n, e := node.New(id, c, 1000000000)
		store, _ := custody.Format()
		program, _ := boot.Format(1, []byte{1})
		want := api.Node{ID: id, Clock: c, Ledger: api.Ledger{Left: 1000000000}, Time: timesync.Start(false), Join: api.Join{Sponsor: -1}, Route: rank.Start(id == 0, 0), Store: store, Program: program, Spread: api.Spread{Timer: api.Trickle{Seed: id}}}
		if e != api.OK || !same(n, want) {
			t.Errorf("New(%d): %v %v", id, n, e)
		}
	}
	refused := func(id int, c api.Clock, battery int) {
		t.Helper()
		if n, e := node.New(id, c, battery); e != api.ErrArg || !same(n, api.Node{}) {
			t.Errorf("New(%d, %v, %d): %v", id, c, battery, e)
		}
	}
	for _, n := range append(wild, 60) {
		refused(n, api.Clock{}, 5)
	}
	for _, n := range append(wild, 1000000001) {
		refused(5, api.Clock{}, n)
	}
	if n, e := node.New(5, api.Clock{}, 0); e != api.OK || n.Ledger != (api.Ledger{}) {
		t.Errorf("an empty battery: %v", e)
	}
	refused(5, api.Clock{Drift: 51}, 5)
	refused(5, api.Clock{Offset: -1000000001}, 5)
}

// P41.1: AO2; the examples of the chapter.
func TestStart(t *testing.T) {
	l := api.Layout{Nodes: 3, Data: 4}
	one := started(t, fresh(t, 1), l, 16)
	if !one.Up || member(one) || one.Boot != 1 || one.Runs != 1 || !one.Kept || one.Since != 2 || one.Time != timesync.Start(false) || one.Ring != (api.Ring{}) || one.Fresh != 0 {
		t.Errorf("%v", one)
	}
	root := started(t, fresh(t, 0), l, 4019)
	if root.Join != (api.Join{Phase: api.JoinIn, Sponsor: -1}) || root.Ring != (api.Ring{First: 2, Next: 4}) || root.Time != timesync.Start(true) || root.Fresh != 502 || root.Since != 502 || root.Route != rank.Start(true, 0) || root.Boot != 1 {
		t.Errorf("%v", root)
	}
	refused := func(n api.Node, l api.Layout, asn int, want api.Errno) {
		t.Helper()
		if x, e := node.Start(n, l, asn); e != want || !same(x, api.Node{}) {
			t.Errorf("%v in %d: %v, want %v", l, asn, e, want)
		}
	}
	for _, n := range append(wild, 0, 61) {
		refused(one, api.Layout{Nodes: n, Data: 4}, 5, api.ErrArg)
		refused(one, api.Layout{Nodes: 3, Data: n}, 5, api.ErrArg)
	}
	for _, n := range append(wild, 1000000001) {
		refused(one, l, n, api.ErrArg)
	}
	for _, id := range append(wild, 3) {
		x := one
		x.ID = id
		refused(x, l, 5, api.ErrArg)
	}
	refused(one, l, 5, api.ErrState)
	for _, change := range []struct {
		f func(*api.Node)
		e api.Errno
	}{
		{func(n *api.Node) { n.Store = api.Flash{} }, api.ErrArg}, {func(n *api.Node) { n.Store = copies.Flash(n.Store); n.Store.Bytes[0] = 0 }, api.ErrNone}, {func(n *api.Node) { n.Store = copies.Flash(n.Store); n.Store.Bytes[5] = 0; n.Program = api.Flash{} }, api.ErrSum},
		{func(n *api.Node) { n.Program = api.Flash{} }, api.ErrArg}, {func(n *api.Node) { n.Program = copies.Flash(n.Program); n.Program.Bytes[0] = 9 }, api.ErrNone},
	} {
		x := fresh(t, 1)
		change.f(&x)
		refused(x, l, 5, change.e)
	}
	started(t, fresh(t, 2), l, 1000000000)
}

// P41.1: AO2 after a life; P41.4 (restart).
func TestRestart(t *testing.T) {
	a := newAir(t, 1, 4, 5, 1)
	a.allIn()
	for i := range 9 {
		a.read(3, i)
	}
	a.load(4, []byte("a program"), a.asn+40)
	a.lost = 25 // the root speaks only after a frame in which it hears nobody that lacks pages
	for slot := 0; slot < 20000 && slices.ContainsFunc(a.nodes, func(n api.Node) bool { return n.Runs != 4 || !n.Kept || !member(n) }); slot++ {
		a.step()
	}
	a.lost = 0
	for i := range 5 {
		a.read(3, i)
	}
	a.run(2)
	for id, n := range a.nodes {
		n.Up = false
		x := started(t, n, a.l, a.asn+7)
		held, count, _ := custody.Held(n.Store, id)
		version, _, _ := boot.Select(n.Program)
		want := stranger(n)
		want.Up, want.Boot, want.Time, want.Route = true, n.Boot+1, timesync.Start(id == 0), rank.Start(id == 0, n.Route.Own.Seq)
		want.Queue, want.Number, want.Join.Tries = api.Queue{List: held}, count, 0
		want.Spread = api.Spread{Timer: api.Trickle{Seed: id}}
		want.Runs, want.Since, want.Kept = version, (a.asn+7)/length(a.l), boot.Marks(n.Program, version) >= 2
		if id == 0 {
			want.Ring, want.Join.Phase, want.Fresh = keyring.Root(a.asn+7), api.JoinIn, (a.asn+7)/length(a.l)
		}
		if !same(x, want) {
			t.Errorf("%v, not %v", x, want)
		}
		if id == 3 && (n.Number == 0 || x.Number != n.Number || !slices.Equal(x.Queue.List, held)) {
			t.Errorf("the readings of %d: %v", id, x.Queue)
		}
		if n.Runs != 4 || x.Runs != 4 || x.Route.Own.Seq != n.Route.Own.Seq {
			t.Errorf("node %d runs %d", id, x.Runs)
		}
	}
	old := a.nodes[3]
	old.Up, old.Join.Tries = false, 200
	old.Program = func() api.Flash {
		l, _ := boot.Mark(old.Program, 4, api.MarkDrop)
		return l[1]
	}()
	if x := started(t, old, a.l, 500); x.Runs != 1 || !x.Kept || x.Join.Tries != 0 {
		t.Errorf("after a drop: %d %v", x.Runs, x.Kept)
	}
	unkept := fresh(t, 1)
	l, _ := boot.Install(unkept.Program, 7, []byte{5})
	l, _ = boot.Mark(l[len(l)-1], 7, api.MarkStart)
	unkept.Program = l[1]
	if x := started(t, unkept, a.l, 500); x.Runs != 7 || x.Kept || x.Since != 50 {
		t.Errorf("a program that is not kept: %d %v", x.Runs, x.Kept)
	}
}

// P41.1: AO7; P41.7 (readings).
func TestRead(t *testing.T) {
	l := api.Layout{Nodes: 3, Data: 4}
	n := started(t, fresh(t, 1), l, 16)
	x, e := node.Read(n, 7, 20)
	r := api.Reading{Origin: 1, Number: 1, Value: 7, At: 20}
	want, _ := putting(n, r)
	want.Number = 1
	held, count, _ := custody.Held(x.Store, 1)
	if e != api.OK || !same(x, want) || x.Queue.List[0] != r || count != 1 || !slices.Equal(held, []api.Reading{r}) {
		t.Errorf("%v %v", x, e)
	}
	refused := func(n api.Node, value, asn int, want api.Errno) {
		t.Helper()
		if x, e := node.Read(n, value, asn); e != want || !same(x, api.Node{}) {
			t.Errorf("%d in %d: %v, want %v", value, asn, e, want)
		}
	}
	refused(started(t, fresh(t, 0), l, 0), 7, 20, api.ErrState)
	refused(fresh(t, 1), 7, 20, api.ErrState)
	refused(fresh(t, 1), -7, -20, api.ErrState)
	for _, asn := range append(wild, 1000000001) {
		refused(n, 7, asn, api.ErrArg)
	}
	for _, value := range append(wild, 10000000000001) {
		refused(n, value, 20, api.ErrArg)
	}
	late := n
	late.Number = math.MaxInt
	refused(late, 7, 20, api.ErrArg)
	late.Number = 1000000000
	refused(late, 7, 20, api.ErrArg)
	used := x
	used.Number, used.Queue = 0, api.Queue{} // the number was used before
	refused(used, 7, 20, api.ErrTwice)
	for i := 2; i <= 12; i++ {
		if x, e = node.Read(x, i, 20); e != api.OK || x.Number != i {
			t.Fatalf("the reading %d: %v", i, e)
		}
	}
	refused(x, 7, 20, api.ErrFull)
	x.Queue.List[0].Origin = 99
	refused(x, 7, 20, api.ErrArg)
}

// P41.1: AO8.
func TestLoad(t *testing.T) {
	l := api.Layout{Nodes: 3, Data: 4}
	root := started(t, fresh(t, 0), l, 0)
	root.Spread.Rows, root.Spread.Proof = []api.Row{{Mask: 1}}, []uint64{5}
	program := bytes.Repeat([]byte{1, 2, 3}, 200)
	x, e := node.Load(root, 2, program, 99, 12)
	want := copies.Node(root)
	notice, _ := image.Announce(2, program, 99)
	timer, _ := trickle.New(0, 12)
	want.Spread = api.Spread{Notice: notice, Timer: timer}
	want.Spread.Pages, _ = image.Split(program)
	for i := range want.Spread.Pages {
		proof, _ := tree.Proof(want.Spread.Pages, i)
		want.Spread.Proofs = append(want.Spread.Proofs, proof)
	}
	if whole, ok := image.Whole(x.Spread); e != api.OK || !same(x, want) || !ok || !bytes.Equal(whole, program) {
		t.Errorf("%v %v", x.Spread, e)
	}
	refused := func(n api.Node, version int, program []byte, start, frame int, want api.Errno) {
		t.Helper()
		if x, e := node.Load(n, version, program, start, frame); e != want || !same(x, api.Node{}) {
			t.Errorf("%d, %d bytes: %v, want %v", version, len(program), e, want)
		}
	}
	refused(started(t, fresh(t, 1), l, 0), 0, nil, -1, -1, api.ErrState)
	refused(fresh(t, 0), 0, nil, -1, -1, api.ErrState)
	refused(root, 0, program, 99, 12, api.ErrArg)
	refused(root, 1, nil, 99, 12, api.ErrArg)
	refused(root, 1, make([]byte, 4097), 99, 12, api.ErrArg)
	refused(root, 1, program, -1, 12, api.ErrArg)
	refused(root, 1, program, 1000000001, -1, api.ErrArg)
	refused(root, 1, program, 99, -1, api.ErrOld)
	refused(x, 2, program, 99, -1, api.ErrOld)
	ahead := root
	ahead.Runs = 8
	refused(ahead, 8, program, 99, 12, api.ErrOld)
	refused(ahead, 5, program, 99, 12, api.ErrOld)
	for _, frame := range append(wild, 1000000000-15) {
		refused(root, 2, program, 99, frame, api.ErrArg)
	}
	if y, e := node.Load(x, 3, program, 1000000000, 1000000000-16); e != api.OK || y.Spread.Notice.Version != 3 {
		t.Errorf("%v", e)
	}
	y, _ := node.Load(root, 2, program, 99, 12)
	y.Spread.Pages[0][0], y.Store.Bytes[0], y.Program.Bytes[0] = 9, 9, 9
	if program[0] != 1 || root.Store.Bytes[0] == 9 || root.Program.Bytes[0] == 9 {
		t.Error("memory is shared")
	}
}

// P41.1: AO4.
func TestAcked(t *testing.T) {
	a := newAir(t, 2, 3, 4, 2)
	a.allIn()
	r := a.read(2, 8)
	s := a.read(2, 9)
	n := a.nodes[2]
	good := api.Frame{Kind: api.FrameData, From: 2, To: 1, ASN: a.asn, Body: body(r)}
	full := n
	full.Queue = api.Queue{List: slices.Repeat([]api.Reading{r}, 3)} // not valid
	lost := n
	lost.Store = api.Flash{}
	bad := n
	bad.Links = []api.Link{{Peer: 99}}
	out := n
	out.Join.Phase = api.JoinProved
	off := n
	off.Up = false
	for i, n := range []api.Node{n, full, lost, bad, out, off} {
		for k, change := range []func(*api.Frame){
			func(*api.Frame) {}, func(f *api.Frame) { f.Body = body(s) }, func(f *api.Frame) { f.Body = f.Body[:2] }, func(f *api.Frame) { f.Body = append(slices.Clone(f.Body), 0) }, func(f *api.Frame) { f.Kind = api.FrameBeacon }, func(f *api.Frame) { f.To = 60 },
			func(f *api.Frame) { f.To = -1 }, func(f *api.Frame) { f.Body = body(api.Reading{Origin: 2, Number: 77}) }, func(f *api.Frame) { f.Body = body(api.Reading{Origin: 60, Number: 1}) }, func(f *api.Frame) { f.Kind = 0 }, func(f *api.Frame) { f.Body = nil },
		} {
			for _, acked := range []bool{true, false} {
				f := copies.Frame(good)
				change(&f)
				x := node.Acked(n, a.l, f, acked)
				if want := modelAcked(n, f, acked); !same(x, want) {
					t.Errorf("node %d, frame %d, %v: %v, want %v", i, k, acked, x, want)
				}
			}
		}
	}
	x := node.Acked(n, api.Layout{}, good, true)
	if held, _, _ := custody.Held(x.Store, 2); len(x.Queue.List) != 1 || x.Queue.List[0] != s || !slices.Equal(held, []api.Reading{s}) {
		t.Errorf("%v", x.Queue)
	}
	if y := node.Acked(n, a.l, good, false); len(y.Queue.List) != 2 || !sameFlash(y.Store, n.Store) {
		t.Errorf("%v", y.Queue)
	}
}

// P41.3 (custody): what is acknowledged is held, also after a restart.
func TestCustody(t *testing.T) {
	a := newAir(t, 3, 4, 6, 2)
	a.lost = 20
	a.allIn()
	var taken []api.Reading
	for range 400 {
		id := 1 + a.r.IntN(3)
		if a.r.IntN(5) == 0 && a.nodes[id].Up && len(a.nodes[id].Queue.List) < 10 {
			taken = append(taken, a.read(id, a.r.IntN(1000)))
		}
		a.before = func(n api.Node, f api.Frame, asn, local, i int) {
			x, acked := node.Hear(n, a.l, f, asn, local)
			r, _ := reading(f.Body)
			if !acked || i == 0 {
				if i == 0 && acked && !slices.Contains(taken, r) && r.Kind == api.ReadValue {
					t.Fatalf("the root acknowledges %v", r)
				}
				return
			}
			x.Up = false
			for _, y := range []api.Node{x, started(t, x, a.l, asn)} {
				if held, _, _ := custody.Held(y.Store, i); !slices.Contains(held, r) {
					t.Fatalf("node %d acknowledges %v, but holds %v", i, r, held)
				}
			}
		}
		a.step()
		if a.r.IntN(60) == 0 {
			a.nodes[id].Up = false
		} else if !a.nodes[id].Up {
			a.start(id)
		}
	}
	a.before = nil
	for id := 1; id < 4; id++ {
		if !a.nodes[id].Up {
			a.start(id)
		}
	}
	a.lost = 0
	a.run(3000)
	seen := map[[2]int]int{}
	for _, r := range a.told {
		seen[[2]int{r.Origin, r.Number}]++
		if !slices.Contains(taken, r) {
			t.Errorf("%v was not taken", r)
		}
	}
	for _, r := range taken {
		if seen[[2]int{r.Origin, r.Number}] != 1 {
			t.Errorf("%v was told %d times", r, seen[[2]int{r.Origin, r.Number}])
		}
	}
	if len(taken) < 20 {
		t.Errorf("only %d readings", len(taken))
	}
}

// P41.5 (routes), P41.6 (beacons), P41.8 (programs) and P41.9 (nothing else), in a net with losses, failures and programs.
func TestLife(t *testing.T) {
	a := newAir(t, 4, 6, 6, 2)
	for i := range a.nodes {
		a.start(i)
	}
	told := make([][]api.Distance, 6)
	chosen, ran := 0, map[int]bool{}
	for slot := range 6000 {
		before := make([]api.Node, 6)
		for i, n := range a.nodes {
			before[i] = copies.Node(n)
		}
		a.lost = []int{0, 0, 30, 5}[slot/400%4]
		a.step()
		for i, n := range a.nodes {
			b := before[i]
			switch {
			case n.ID != b.ID || n.Clock != b.Clock || n.Ledger != b.Ledger || n.Up != b.Up || n.Boot != b.Boot:
				t.Fatalf("slot %d: node %d has changed", slot, i)
			case rank.Better(b.Route.Least, n.Route.Least), n.Route.Own.Seq < b.Route.Own.Seq:
				t.Fatalf("slot %d: node %d: %v after %v", slot, i, n.Route, b.Route)
			case member(n) && n.Route.Parent >= 0 && !slices.ContainsFunc(b.Near, func(x api.Near) bool { return x.Told.From == n.Route.Parent }) && n.Route != b.Route:
				t.Fatalf("slot %d: node %d has not heard its parent: %v", slot, i, n.Route)
			}
			if n.Route.Parent >= 0 {
				chosen++
			}
			version, _, e := boot.Select(n.Program)
			if n.Up && (e != api.OK || version != n.Runs) {
				t.Fatalf("slot %d: node %d runs %d, not %d", slot, i, n.Runs, version)
			}
			ran[n.Runs] = true
			told[i] = append(told[i], n.Route.Own)
		}
		switch {
		case slot == 1500:
			a.load(3, bytes.Repeat([]byte("xyz"), 120), a.asn+600)
		case slot == 3500:
			a.load(9, []byte("short"), a.asn+300)
		case slot%700 == 650:
			id := a.r.IntN(6)
			a.nodes[id].Up = false
			a.run(20)
			a.start(id)
		}
	}
	if chosen < 5000 || !ran[3] || !ran[9] {
		t.Errorf("%d parents, programs %v", chosen, ran)
	}
}

// P41.2 (strangers' frames).
func TestStrangersFrames(t *testing.T) {
	a := newAir(t, 5, 4, 4, 3)
	a.allIn()
	frames := 0
	a.before = func(n api.Node, f api.Frame, asn, local, i int) {
		for _, key := range []int{0, f.Key + 1, 1000003} {
			g := copies.Frame(f)
			g.Key = key
			if x, acked := node.Hear(n, a.l, g, asn, local); g.Kind != api.FrameJoin && (acked || !same(x, n)) {
				t.Fatalf("%v changes node %d", g, i)
			}
		}
		for _, later := range []int{1, length(a.l), 2000, -1} {
			x, acked := node.Hear(n, a.l, f, asn+later, local)
			if f.Kind == api.FrameJoin {
				x.Half = n.Half
			}
			if member(n) && (acked || !same(x, n)) {
				t.Fatalf("%v, %d later, changes node %d", f, later, i)
			}
		}
		frames++
	}
	a.read(3, 5)
	a.run(100)
	for nonce := range 300 { // words of strangers
		w := api.Word{Kind: 1 + nonce%4, Stranger: 1 + nonce%3, Sponsor: 0, Nonce: nonce, Challenge: nonce % 5}
		f := api.Frame{Kind: api.FrameJoin, From: w.Stranger, To: 0, ASN: a.asn, Body: encode(t, api.Beacon{From: w.Stranger, Words: []api.Word{w}})}
		x, acked := node.Hear(a.nodes[0], a.l, f, a.asn, 0)
		if len(x.Half) > 4 || acked {
			t.Fatalf("%v", x.Half)
		}
		y := x
		y.Half = a.nodes[0].Half
		if !same(y, a.nodes[0]) {
			t.Fatalf("%v changes more than half-open joins", w)
		}
		a.nodes[0] = x
	}
	if frames < 100 {
		t.Errorf("only %d frames", frames)
	}
}

// Whatever is received comes to the root; a queue that is full pushes back.
func TestDelivery(t *testing.T) {
	a := newAir(t, 6, 5, 8, 2)
	a.allIn()
	var taken []api.Reading
	for i := range 30 {
		taken = append(taken, a.read(1+i%4, i))
		a.run(40)
	}
	a.run(1000)
	for _, r := range taken {
		if !slices.Contains(a.told, r) {
			t.Errorf("%v is missing", r)
		}
	}
	if len(a.told) != len(taken) {
		t.Errorf("%d readings of %d: %v", len(a.told), len(taken), fmt.Sprint(a.told))
	}
}
