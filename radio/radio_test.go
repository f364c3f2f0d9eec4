package radio_test

import (
	"bytes"
	"math"
	"math/rand/v2"
	"reflect"
	"slices"
	"testing"

	"slotmesh/api"
	"slotmesh/beacon"
	"slotmesh/clock"
	"slotmesh/copies"
	"slotmesh/guard"
	"slotmesh/hop"
	"slotmesh/ledger"
	"slotmesh/node"
	"slotmesh/queue"
	"slotmesh/radio"
	"slotmesh/seal"
	"slotmesh/wire"
)

// equal compares values in which a nil slice and an empty one are the same.
func equal(a, b reflect.Value) bool {
	switch a.Kind() {
	case reflect.Struct:
		for i := range a.NumField() {
			if !equal(a.Field(i), b.Field(i)) {
				return false
			}
		}
		return true
	case reflect.Slice:
		if a.Type().Elem().Kind() == reflect.Uint8 {
			return bytes.Equal(a.Bytes(), b.Bytes())
		}
		for i := 0; i < a.Len() && a.Len() == b.Len(); i++ {
			if !equal(a.Index(i), b.Index(i)) {
				return false
			}
		}
		return a.Len() == b.Len()
	}
	return a.Interface() == b.Interface()
}

func same[T any](a, b T) bool { return equal(reflect.ValueOf(a), reflect.ValueOf(b)) }

// brief is a node without its memories.
func brief(n api.Node) api.Node {
	n.Store.Bytes, n.Program.Bytes = nil, nil
	return n
}

func length(l api.Layout) int { return l.Nodes + l.Data + 1 }

func member(n api.Node) bool { return n.Up && n.Join.Phase == api.JoinIn }

// model says once more what Plan does, sentence by sentence.
func model(n api.Node, l api.Layout, asn int) (api.Node, api.Action, api.Frame) {
	n = copies.Node(n)
	sleep := func() (api.Node, api.Action, api.Frame) { return n, api.Action{}, api.Frame{} }
	if !n.Up || l.Nodes < 1 || l.Nodes > 60 || l.Data < 1 || l.Data > 60 || n.ID < 0 || n.ID >= l.Nodes || asn < 0 || asn > 999999999 {
		return sleep()
	}
	f := length(l)
	fr, p := asn/f, asn%f
	listen := func(offset int) (api.Node, api.Action, api.Frame) {
		c, e := hop.Channel(asn, offset)
		open, e2 := guard.Listen(n.Time, n.Clock, asn)
		if e != api.OK || e2 != api.OK || n.Ledger.Left < 40 {
			return sleep()
		}
		return n, api.Action{Do: api.RadioListen, Channel: c, Open: open}, api.Frame{}
	}
	send := func(offset int, x api.Frame, err api.Errno) (api.Node, api.Action, api.Frame) {
		c, e := hop.Channel(asn, offset)
		start, e2 := guard.Send(n.Time, n.Clock, asn)
		if err != api.OK || e != api.OK || e2 != api.OK || n.Ledger.Left < 60 {
			return sleep()
		}
		return n, api.Action{Do: api.RadioSend, Channel: c, Start: start}, x
	}
	if !member(n) {
		switch {
		case n.Join.Phase == api.JoinOut && n.Ledger.Left >= 40:
			return n, api.Action{Do: api.RadioListen, Channel: (fr + fr/16) % 16, Open: api.Range{Low: -10000, High: 10000}}, api.Frame{}
		case n.Join.Phase == api.JoinOut:
			return sleep()
		case p == n.Join.Sponsor:
			return listen(0)
		case p == f-1 && fr%4 == n.ID%4 && len(n.Mail) > 0:
			body, e := beacon.Encode(api.Beacon{From: n.ID, Words: n.Mail[:1]})
			return send(0, api.Frame{Kind: api.FrameJoin, From: n.ID, To: n.Join.Sponsor, ASN: asn, Body: body}, e)
		}
		return sleep()
	}
	switch d := p - l.Nodes; {
	case p == n.ID:
		told, b := node.Tell(n, l, asn)
		if b.From != n.ID || b.ASN != asn {
			n = told
			return sleep()
		}
		body, e := beacon.Encode(b)
		x, e2 := seal.Seal(api.Frame{Kind: api.FrameBeacon, From: n.ID, To: -1, ASN: asn, Body: body}, n.Ring)
		if e != api.OK {
			return sleep()
		}
		if e2 == api.OK {
			if _, e := guard.Send(n.Time, n.Clock, asn); e != api.OK {
				return sleep()
			}
		}
		n = told
		return send(0, x, e2)
	case p < l.Nodes || p == f-1:
		return listen(0)
	default:
		if at := slices.IndexFunc(n.Table.Uses, func(u api.Use) bool { return u.Cell.Slot == d }); at >= 0 {
			u := n.Table.Uses[at]
			told, _ := beacon.Of(n.Near, u.Peer)
			r, ok := queue.Head(n.Queue)
			if u.Peer != n.Route.Parent || told.Full || !ok {
				return sleep()
			}
			var body []byte
			var e api.Errno
			for _, x := range []int{r.Origin, r.Number, r.Kind, r.Value, r.At} {
				if body, e = wire.PutNumber(body, x); e != api.OK {
					return sleep()
				}
			}
			x, e := seal.Seal(api.Frame{Kind: api.FrameData, From: n.ID, To: u.Peer, ASN: asn, Body: body}, n.Ring)
			return send(u.Cell.Offset, x, e)
		}
		if at := slices.IndexFunc(n.Table.Grants, func(g api.Grant) bool { return g.Cell.Slot == d && g.Until >= fr }); at >= 0 {
			return listen(n.Table.Grants[at].Cell.Offset)
		}
	}
	return sleep()
}

// world steps nodes that all hear each other, by their radios.
type world struct {
	t     *testing.T
	r     *rand.Rand
	l     api.Layout
	nodes []api.Node
	asn   int
	check func(n api.Node)
	what  map[int]int // how often something was sent
}

func newWorld(t *testing.T, seed uint64, nodes, data int) *world {
	t.Helper()
	w := &world{t: t, r: rand.New(rand.NewPCG(42, seed)), l: api.Layout{Nodes: nodes, Data: data}, what: map[int]int{}}
	for i := range nodes {
		c := api.Clock{}
		if i > 0 {
			c = api.Clock{Offset: w.r.IntN(1000000), Drift: w.r.IntN(101) - 50}
		}
		n, _ := node.New(i, c, 100000000)
		n, e := node.Start(n, w.l, 0)
		if e != api.OK {
			t.Fatalf("%v", e)
		}
		w.nodes = append(w.nodes, n)
	}
	return w
}

// step is one slot; a frame is caught if it is alone on its channel.
func (w *world) step() {
	actions, frames := make([]api.Action, len(w.nodes)), make([]api.Frame, len(w.nodes))
	for i := range w.nodes {
		if w.check != nil {
			w.check(w.nodes[i])
		}
		w.nodes[i], actions[i], frames[i] = radio.Plan(w.nodes[i], w.l, w.asn)
	}
	acked := make([]bool, len(w.nodes))
	for i := range w.nodes {
		from := -1
		for k := range w.nodes {
			if actions[k].Do == api.RadioSend && actions[k].Channel == actions[i].Channel {
				if from >= 0 {
					from = -2
					break
				}
				from = k
			}
		}
		if from < 0 || actions[i].Do != api.RadioListen || !guard.Catches(actions[from].Start, actions[i].Open) {
			continue
		}
		local, _ := clock.Show(w.nodes[i].Clock, max(0, w.asn*10000+actions[from].Start))
		n, ok := node.Hear(w.nodes[i], w.l, frames[from], w.asn, local)
		w.nodes[i] = n
		acked[from] = acked[from] || ok
	}
	for i := range w.nodes {
		if actions[i].Do == api.RadioSend {
			w.what[frames[i].Kind]++
		}
		if frames[i].Kind == api.FrameData {
			w.nodes[i] = node.Acked(w.nodes[i], w.l, frames[i], acked[i])
		}
		w.nodes[i] = radio.Pay(w.nodes[i], actions[i].Do)
		if w.asn%length(w.l) == w.l.Nodes-1 {
			w.nodes[i] = node.Turn(w.nodes[i], w.l, w.asn)
		}
	}
	w.nodes[0].Queue = api.Queue{}
	w.asn++
}

// odd changes something of a node, so that it is in a state that is rare, or not possible at all.
func odd(r *rand.Rand, n api.Node, l api.Layout, asn int) api.Node {
	n = copies.Node(n)
	fr := asn / length(l)
	switch r.IntN(26) {
	case 0:
		n.Up = false
	case 1:
		n.Join.Phase = r.IntN(5) - 1
	case 2:
		n.Join.Sponsor, n.Join.Phase = []int{r.IntN(l.Nodes), asn % length(l), -1, 99}[r.IntN(4)], 1+r.IntN(2)
	case 3:
		n.Mail = []api.Word{{Kind: r.IntN(5), Stranger: n.ID, Sponsor: 1}, {Kind: 1}}
		n.Join.Phase = 1 + r.IntN(2)
	case 4:
		n.Ledger.Left = []int{0, 1, 39, 40, 59, 60}[r.IntN(6)]
	case 5:
		n.Ring = []api.Ring{{}, {First: asn / 2000, Next: asn/2000 + 1}, {First: 0, Next: asn / 2000}}[r.IntN(3)]
	case 6:
		n.Time = api.TimeState{Hops: 60, Source: -1}
	case 7:
		n.Time.Span.High += []int{3000, 3900, 3990}[r.IntN(3)]
	case 8:
		n.Time.Span.At = asn*10000 + 2000000
	case 9:
		n.Clock.Drift = 51
	case 10, 11:
		n.Table.Uses = nil
		for s := range l.Data {
			if r.IntN(2) == 0 {
				n.Table.Uses = append(n.Table.Uses, api.Use{Cell: api.Cell{Slot: s, Offset: []int{r.IntN(16), 16, -1}[r.IntN(8)/6*r.IntN(3)]}, Peer: []int{max(0, n.Route.Parent), r.IntN(l.Nodes)}[r.IntN(2)]})
			}
		}
	case 12, 13:
		n.Table.Grants = nil
		for s := range l.Data {
			for range r.IntN(3) {
				n.Table.Grants = append(n.Table.Grants, api.Grant{Cell: api.Cell{Slot: s, Offset: []int{r.IntN(16), 16}[r.IntN(8)/7]}, Until: fr + r.IntN(3) - 1})
			}
		}
	case 14, 15:
		n.Queue.List = nil
		for i := range r.IntN(3) {
			n.Queue.List = append(n.Queue.List, api.Reading{Origin: 1, Number: i + 1, Value: []int{5, math.MaxInt}[r.IntN(2)]})
		}
		for s := range l.Data {
			n.Table.Uses = append(n.Table.Uses, api.Use{Cell: api.Cell{Slot: s}, Peer: n.Route.Parent})
		}
	case 16:
		for i := range n.Near {
			n.Near[i].Told.Full = r.IntN(2) == 0
		}
		n.Queue.List = append(n.Queue.List, api.Reading{Origin: 1, Number: 77})
	case 17:
		n.ID = r.IntN(l.Nodes+3) - 1
	case 18:
		n.Boot = []int{-1, 1000000001}[r.IntN(2)]
	case 19:
		n.Half = []api.Half{{Stranger: -1}}
	case 20:
		n.Queue.List = append(n.Queue.List, api.Reading{})
	case 21:
		n.Route.Parent = r.IntN(l.Nodes+1) - 1
	case 22:
		n.Got = []int{77}
	case 23:
		n.Time.Span.At = asn*10000 + n.Clock.Offset + r.IntN(4001) - 2000
	default:
		n.Near = nil
	}
	return n
}

// P42.1: AP1, compared with the model; P42.8 (nothing else).
func TestPlan(t *testing.T) {
	kinds := map[int]int{}
	for seed := range 3 {
		w := newWorld(t, uint64(seed), 3+seed, []int{4, 9, 2}[seed])
		w.check = func(n api.Node) {
			for k := range 4 {
				x, l, asn := n, w.l, w.asn
				if k > 0 {
					x = odd(w.r, n, l, asn)
				}
				if k == 3 {
					x = odd(w.r, x, l, asn)
				}
				if w.r.IntN(20) == 0 {
					asn = []int{-1, 0, 999999999, 1000000000, math.MaxInt, math.MinInt, asn + 1000, asn + 2000, x.ID}[w.r.IntN(9)]
				}
				if w.r.IntN(50) == 0 {
					l = []api.Layout{{}, {Nodes: 61, Data: 1}, {Nodes: 3, Data: 61}, {Nodes: 2}}[w.r.IntN(4)]
				}
				before := copies.Node(x)
				y, a, f := radio.Plan(x, l, asn)
				wy, wa, wf := model(x, l, asn)
				if !same(y, wy) || a != wa || !same(f, wf) {
					t.Fatalf("%v in %d: %v %v %v, want %v %v %v", brief(x), asn, brief(y), a, f, brief(wy), wa, wf)
				}
				kinds[4*f.Kind+a.Do]++
				if asn%max(1, length(l)) != x.ID && !same(y, x) {
					t.Fatalf("%v in %d has changed: %v", brief(x), asn, brief(y))
				}
				y.Store.Bytes[0]++
				y.Program.Bytes[0]++
				for i := range y.Mail {
					y.Mail[i].Key = -9
				}
				for i := range y.Near {
					y.Near[i].Frame = -9
				}
				if !same(x, before) {
					t.Fatal("memory is shared")
				}
			}
		}
		for slot := range 900 {
			w.step()
			if id := 1 + w.r.IntN(len(w.nodes)-1); slot%10 == 0 && len(w.nodes[id].Queue.List) < 9 {
				if n, e := node.Read(w.nodes[id], slot, w.asn); e == api.OK {
					w.nodes[id] = n
				}
			}
		}
		for _, n := range w.nodes {
			if !member(n) {
				t.Fatalf("%v is no member", brief(n))
			}
		}
		if w.what[api.FrameBeacon] < 100 || w.what[api.FrameData] < 20 || w.what[api.FrameJoin] < 3 {
			t.Errorf("sent: %v", w.what)
		}
	}
	for _, k := range []int{0, 1, 4*api.FrameBeacon + 2, 4*api.FrameData + 2, 4*api.FrameJoin + 2} {
		if kinds[k] < 50 {
			t.Errorf("%d only %d times", k, kinds[k])
		}
	}
}

// The examples of the chapter.
func TestExamples(t *testing.T) {
	l := api.Layout{Nodes: 2, Data: 4}
	start := func(id int) api.Node {
		n, _ := node.New(id, api.Clock{}, 1000)
		n, _ = node.Start(n, l, 0)
		return n
	}
	root, one := start(0), start(1)
	if _, a, f := radio.Plan(root, l, 8); a != (api.Action{Do: api.RadioListen, Channel: 8, Open: api.Range{Low: -2004, High: 2004}}) || f.Kind != 0 {
		t.Errorf("the root: %v", a)
	}
	if _, a, f := radio.Plan(one, l, 8); a != (api.Action{Do: api.RadioListen, Channel: 1, Open: api.Range{Low: -10000, High: 10000}}) || f.Kind != 0 {
		t.Errorf("a stranger: %v", a)
	}
	if _, a, _ := radio.Plan(one, l, 7*16); a.Channel != 1 {
		t.Errorf("a stranger in the frame 16: %v", a)
	}
	one.Join.Phase, one.Ring = api.JoinIn, api.Ring{First: 0, Next: 2}
	one.Time = api.TimeState{Synced: true, Hops: 1, Span: api.Span{Low: -3, High: 5}}
	n, a, f := radio.Plan(one, l, 8)
	told, b := node.Tell(one, l, 8)
	body, _ := beacon.Encode(b)
	if a.Do != api.RadioSend || a.Channel != 8 || !same(n, told) || !same(f, api.Frame{Kind: api.FrameBeacon, From: 1, To: -1, ASN: 8, Key: 1, Body: body}) {
		t.Errorf("a member: %v %v", a, f)
	}
}

// P42.1: AP2; P42.2 (affordable).
func TestPay(t *testing.T) {
	base, _ := node.New(1, api.Clock{}, 1000)
	base.Mail = []api.Word{{Key: 1}}
	for _, up := range []bool{true, false} {
		for _, l := range []api.Ledger{{Left: 100, Spent: 5}, {Left: 60}, {Left: 59}, {Left: 40}, {Left: 39}, {Left: 1}, {}, {Left: -1}, {Left: 5, Spent: -1}, {Left: math.MaxInt, Spent: math.MaxInt}} {
			for _, do := range []int{0, 1, 2, 3, -1, math.MaxInt} {
				n := base
				n.Up, n.Ledger = up, l
				want := n
				if x, e := ledger.Spend(l, ledger.Cost(do)); up && e == api.OK {
					want.Ledger = x
				} else {
					want.Up = false
				}
				y := radio.Pay(n, do)
				if !same(y, want) || y.Ledger.Left < 0 && l.Left >= 0 {
					t.Errorf("%v pays for %d: %v %v", l, do, y.Ledger, y.Up)
				}
				y.Mail[0].Key, y.Store.Bytes[0], y.Program.Bytes[0] = 9, 9, 9
				if base.Mail[0].Key != 1 || base.Store.Bytes[0] == 9 || base.Program.Bytes[0] == 9 {
					t.Fatal("memory is shared")
				}
			}
		}
	}
	w := newWorld(t, 9, 3, 4)
	for slot := range 700 {
		if slot > 400 {
			id := w.r.IntN(3)
			w.nodes[id].Ledger.Left = w.r.IntN(150)
		}
		for i, n := range w.nodes {
			x, a, _ := radio.Plan(n, w.l, w.asn)
			paid := radio.Pay(x, a.Do)
			if a.Do != api.RadioSleep && (!paid.Up || paid.Ledger.Left != n.Ledger.Left-ledger.Cost(a.Do)) || n.Up && n.Ledger.Left == 0 && paid.Up || paid.Ledger.Left < 0 {
				t.Fatalf("node %d with %v does %d: %v %v", i, n.Ledger, a.Do, paid.Ledger, paid.Up)
			}
		}
		w.step()
	}
}

// P42.3 (own slot), P42.4 (cells), P42.5 (strangers), P42.6 (beacons are caught) and P42.7 (cells meet).
func TestWhatIsSent(t *testing.T) {
	beacons, cells, words := 0, 0, 0
	for seed := range 3 {
		w := newWorld(t, uint64(20+seed), 4, 6)
		for slot := range 1500 {
			place := w.asn % length(w.l)
			for i, n := range w.nodes {
				x, a, f := radio.Plan(n, w.l, w.asn)
				if a.Do != api.RadioSend {
					continue
				}
				switch f.Kind {
				case api.FrameBeacon:
					beacons++
					b, e := beacon.Decode(f.Body)
					_, told := node.Tell(n, w.l, w.asn)
					if place != i || !member(n) || e != api.OK || !same(b, told) || seal.Open(f, n.Ring, w.asn) != api.OK {
						t.Fatalf("slot %d: node %d sends %v", slot, i, f)
					}
				case api.FrameData:
					cells++
					u := slices.IndexFunc(n.Table.Uses, func(u api.Use) bool { return u.Cell.Slot == place-w.l.Nodes })
					parent, _ := beacon.Of(n.Near, n.Route.Parent)
					if !member(n) || u < 0 || f.To != n.Route.Parent || parent.Full || len(n.Queue.List) == 0 {
						t.Fatalf("slot %d: node %d sends %v", slot, i, f)
					}
					if origin, _, _ := wire.Number(f.Body, 0); origin != n.Queue.List[0].Origin {
						t.Fatalf("slot %d: node %d sends %v", slot, i, f)
					}
				case api.FrameJoin:
					words++
					b, e := beacon.Decode(f.Body)
					if member(n) || f.Key != 0 || place != length(w.l)-1 || f.To != n.Join.Sponsor || e != api.OK || len(b.Words) != 1 || b.Words[0] != n.Mail[0] || seal.Open(f, api.Ring{Next: 500000}, w.asn) == api.OK {
						t.Fatalf("slot %d: node %d sends %v", slot, i, f)
					}
				}
				for k, m := range w.nodes { // members catch it
					_, heard, _ := radio.Plan(m, w.l, w.asn)
					meets := f.Kind == api.FrameBeacon && k != i
					if f.Kind == api.FrameData && k == f.To {
						u := n.Table.Uses[slices.IndexFunc(n.Table.Uses, func(u api.Use) bool { return u.Cell.Slot == place-w.l.Nodes })]
						meets = slices.ContainsFunc(m.Table.Grants, func(g api.Grant) bool { return g.Cell == u.Cell && g.Until >= w.asn/length(w.l) })
					}
					if member(m) && meets && (heard.Do != api.RadioListen || heard.Channel != a.Channel || !guard.Catches(a.Start, heard.Open)) {
						t.Fatalf("slot %d: node %d does not catch what %d sends: %v and %v", slot, k, i, heard, a)
					}
				}
				_ = x
			}
			w.step()
			if slot%12 == 0 {
				if n, e := node.Read(w.nodes[1+slot/12%3], slot, w.asn); e == api.OK {
					w.nodes[n.ID] = n
				}
			}
		}
	}
	if beacons < 1000 || cells < 50 || words < 8 {
		t.Errorf("%d beacons, %d readings, %d words", beacons, cells, words)
	}
}
