package mesh_test

import (
	"bytes"
	"math"
	"math/rand/v2"
	"reflect"
	"slices"
	"testing"

	"slotmesh/api"
	"slotmesh/clock"
	"slotmesh/copies"
	"slotmesh/image"
	"slotmesh/medium"
	"slotmesh/mesh"
	"slotmesh/node"
	"slotmesh/plane"
	"slotmesh/radio"
	"slotmesh/random"
)

// equal compares values in which a nil slice and an empty one are the same.
func equal(a, b reflect.Value) bool {
	switch a.Kind() {
	case reflect.Struct:
		for i := range a.NumField() {
			if !equal(a.Field(i), b.Field(i)) {
				return false
			}
		}
		return true
	case reflect.Slice:
		if a.Type().Elem().Kind() == reflect.Uint8 {
			return bytes.Equal(a.Bytes(), b.Bytes())
		}
		for i := 0; i < a.Len() && a.Len() == b.Len(); i++ {
			if !equal(a.Index(i), b.Index(i)) {
				return false
			}
		}
		return a.Len() == b.Len()
	}
	return a.Interface() == b.Interface()
}

func same[T any](a, b T) bool { return equal(reflect.ValueOf(a), reflect.ValueOf(b)) }

var wild = []int{-1, math.MaxInt, math.MinInt}

func length(m api.Mesh) int { return m.Layout.Nodes + m.Layout.Data + 1 }

func member(n api.Node) bool { return n.Up && n.Join.Phase == api.JoinIn }

// build returns a mesh of nodes at some places; they are not started.
func build(t *testing.T, r *rand.Rand, data, radius int, places ...api.Place) api.Mesh {
	t.Helper()
	var nodes []api.Node
	for i := range places {
		c := api.Clock{}
		if i > 0 {
			c = api.Clock{Offset: r.IntN(1000001), Drift: r.IntN(101) - 50}
		}
		n, e := node.New(i, c, 10000000)
		if e != api.OK {
			t.Fatal(e)
		}
		nodes = append(nodes, n)
	}
	m, e := mesh.New(data, radius, nodes, places)
	if e != api.OK {
		t.Fatalf("New: %v", e)
	}
	return m
}

func apply(t *testing.T, m api.Mesh, kind, id int, n ...int) api.Mesh {
	t.Helper()
	x, e := mesh.Apply(m, api.Event{Kind: kind, Node: id, N: n})
	if e != api.OK {
		t.Fatalf("%d of %d with %v in %d: %v", kind, id, n, m.ASN, e)
	}
	return x
}

func step(t *testing.T, m api.Mesh) (api.Mesh, []api.Heard) {
	t.Helper()
	x, h, e := mesh.Step(m)
	if e != api.OK {
		t.Fatalf("Step in %d: %v", m.ASN, e)
	}
	return x, h
}

func run(t *testing.T, m api.Mesh, slots int) api.Mesh {
	t.Helper()
	for range slots {
		m, _ = step(t, m)
	}
	return m
}

// row returns places in a row.
func row(n, apart int) []api.Place {
	var l []api.Place
	for i := range n {
		l = append(l, api.Place{X: i * apart})
	}
	return l
}

// up returns a mesh of nodes in a row that have all started.
func up(t *testing.T, r *rand.Rand, n, data, radius int) api.Mesh {
	t.Helper()
	m := build(t, r, data, radius, row(n, 100)...)
	for i := range n {
		m = apply(t, m, api.CmdStart, i)
	}
	return m
}

// P43.1: AQ1.
func TestNew(t *testing.T) {
	r := rand.New(rand.NewPCG(43, 1))
	m := build(t, r, 4, 150, row(3, 100)...)
	nodes, places := m.Nodes, m.Places
	if !same(m, api.Mesh{Layout: api.Layout{Nodes: 3, Data: 4}, Range: 150, Nodes: nodes, Places: places}) {
		t.Errorf("%v", m.Layout)
	}
	refused := func(data, radius int, nodes []api.Node, places []api.Place) {
		t.Helper()
		if m, e := mesh.New(data, radius, nodes, places); e != api.ErrArg || !same(m, api.Mesh{}) {
			t.Errorf("%d data slots, range %d, %d nodes, %d places: %v", data, radius, len(nodes), len(places), e)
		}
	}
	for _, n := range append(wild, 0, 61) {
		refused(n, 150, nodes, places)
	}
	for _, n := range append(wild, 20001) {
		refused(4, n, nodes, places)
	}
	for _, n := range append(wild, 10001) {
		refused(4, 150, nodes, []api.Place{{}, {X: n}, {}})
		refused(4, 150, nodes, []api.Place{{}, {}, {Y: n}})
	}
	refused(4, 150, nodes, places[:2])
	refused(4, 150, nodes[:2], places)
	refused(4, 150, nil, nil)
	refused(4, 150, []api.Node{nodes[1], nodes[0], nodes[2]}, places)
	refused(4, 150, make([]api.Node, 61), make([]api.Place, 61))
	sixty := make([]api.Node, 60)
	for i := range sixty {
		sixty[i].ID = i
	}
	if _, e := mesh.New(4, 0, nodes, places); e != api.OK {
		t.Errorf("range 0: %v", e)
	}
	x, e := mesh.New(60, 20000, sixty, make([]api.Place, 60))
	if e != api.OK || x.Layout.Nodes != 60 {
		t.Errorf("60 nodes: %v", e)
	}
	y, _ := mesh.New(4, 150, nodes, places)
	y.Nodes[1].Store.Bytes[0], y.Places[1].X, y.Nodes[2].ID = 9, 9, 9
	if nodes[1].Store.Bytes[0] == 9 || places[1].X == 9 || nodes[2].ID == 9 {
		t.Error("memory is shared")
	}
}

// notValid are meshes that are not valid.
func notValid(m api.Mesh) []api.Mesh {
	var l []api.Mesh
	for _, change := range []func(*api.Mesh){
		func(m *api.Mesh) { m.Layout.Nodes = 2 }, func(m *api.Mesh) { m.Layout.Data = 0 }, func(m *api.Mesh) { m.Layout.Data = 61 }, func(m *api.Mesh) { m.Nodes = m.Nodes[:2] }, func(m *api.Mesh) { m.Places = m.Places[:2] },
		func(m *api.Mesh) { m.Nodes[2].ID = 1 }, func(m *api.Mesh) { m.Places[1].X = -1 }, func(m *api.Mesh) { m.Places[2].Y = 10001 }, func(m *api.Mesh) { m.Range = -1 }, func(m *api.Mesh) { m.Range = 20001 }, func(m *api.Mesh) { m.ASN = -1 },
		func(m *api.Mesh) { m.ASN = 999999999 }, func(m *api.Mesh) { m.ASN = math.MaxInt }, func(m *api.Mesh) { m.Jams = make([]api.Jam, 17) }, func(m *api.Mesh) { m.Replays = make([]api.Replay, 17) }, func(m *api.Mesh) { m.Sent = make([]api.Sent, 4001) },
		func(m *api.Mesh) { *m = api.Mesh{} }, func(m *api.Mesh) { m.Layout.Nodes = math.MinInt }, func(m *api.Mesh) { m.Range = math.MaxInt },
	} {
		x := copies.Mesh(m)
		change(&x)
		l = append(l, x)
	}
	return l
}

// P43.1: what is not valid.
func TestNotValid(t *testing.T) {
	m := up(t, rand.New(rand.NewPCG(43, 2)), 3, 4, 150)
	for i, x := range notValid(m) {
		if y, h, e := mesh.Step(x); e != api.ErrArg || len(h) > 0 || !same(y, api.Mesh{}) {
			t.Errorf("the mesh %d: %v", i, e)
		}
		for _, kind := range []int{api.CmdFail, 77} {
			if y, e := mesh.Apply(x, api.Event{Kind: kind}); e != api.ErrArg || !same(y, api.Mesh{}) {
				t.Errorf("the mesh %d: %v", i, e)
			}
		}
	}
	edge := m
	edge.ASN, edge.Range = 999999998, 20000
	edge.Jams, edge.Replays, edge.Sent = make([]api.Jam, 16), make([]api.Replay, 16), make([]api.Sent, 4000)
	if x, e := mesh.Apply(edge, api.Event{Kind: api.CmdFail}); e != api.OK || len(x.Sent) != 4000 {
		t.Errorf("the borders: %v", e)
	}
	if x, _ := step(t, edge); x.ASN != 999999999 || len(x.Jams)+len(x.Replays) > 0 {
		t.Errorf("the last slot: %d", x.ASN)
	}
}

// P43.1: AQ2, the errors in their order.
func TestApplyErrors(t *testing.T) {
	m := up(t, rand.New(rand.NewPCG(43, 3)), 3, 4, 150)
	m = run(t, m, 5)
	down := apply(t, m, api.CmdFail, 1)
	down = apply(t, down, api.CmdFail, 0)
	refused := func(m api.Mesh, want api.Errno, kind, id int, n ...int) {
		t.Helper()
		if x, e := mesh.Apply(m, api.Event{Kind: kind, Node: id, N: n}); e != want || !same(x, api.Mesh{}) {
			t.Errorf("%d of %d with %v: %v, want %v", kind, id, n, e, want)
		}
	}
	numbers := map[int]int{api.CmdMove: 2, api.CmdFail: 0, api.CmdStart: 0, api.CmdRead: 1, api.CmdJam: 5, api.CmdReplay: 3, api.CmdProgram: 2}
	for kind, n := range numbers {
		for k := range 7 {
			if k != n {
				refused(m, api.ErrArg, kind, 1, make([]int, k)...)
			}
		}
		for _, id := range append(wild, 3) {
			refused(m, api.ErrArg, kind, id, make([]int, n)...)
		}
	}
	for _, kind := range append(wild, 0, api.CmdMesh, api.CmdRoot, api.CmdNode, api.CmdRun, 12) {
		refused(m, api.ErrKind, kind, 1)
		refused(m, api.ErrKind, kind, 1, 1, 2, 3)
		refused(m, api.ErrArg, kind, 3)
	}
	for _, n := range append(wild, 10001) {
		refused(m, api.ErrArg, api.CmdMove, 1, n, 0)
		refused(m, api.ErrArg, api.CmdMove, 1, 0, n)
		refused(m, api.ErrArg, api.CmdJam, 0, n, 0, 5, 5, 5)
		refused(m, api.ErrArg, api.CmdJam, 0, 0, n, 5, 5, 5)
		refused(m, api.ErrArg, api.CmdReplay, 0, 2, n, 0)
		refused(m, api.ErrArg, api.CmdReplay, 0, 2, 0, n)
	}
	for _, n := range append(wild, 20001) {
		refused(m, api.ErrArg, api.CmdJam, 0, 1, 1, n, 5, 5)
	}
	for _, n := range append(wild, 16) {
		refused(m, api.ErrArg, api.CmdJam, 0, 1, 1, 5, n, 5)
	}
	for _, n := range append(wild, 0, 1000001) {
		refused(m, api.ErrArg, api.CmdJam, 0, 1, 1, 5, 5, n)
	}
	for _, n := range append(wild, 5, 6) {
		refused(m, api.ErrArg, api.CmdReplay, 0, n, 1, 1)
	}
	refused(m, api.ErrState, api.CmdStart, 1)
	refused(down, api.ErrState, api.CmdFail, 1)
	refused(down, api.ErrState, api.CmdRead, 1, math.MinInt)
	refused(down, api.ErrState, api.CmdProgram, 0, 2, 10)
	refused(m, api.ErrState, api.CmdRead, 0, 5)
	refused(m, api.ErrArg, api.CmdRead, 1, -5)
	for _, n := range append(wild, 0, 1000000001) {
		refused(m, api.ErrArg, api.CmdProgram, 0, n, 10)
		refused(down, api.ErrArg, api.CmdProgram, 0, n, 10)
	}
	for _, n := range append(wild, 0, 4097) {
		refused(m, api.ErrArg, api.CmdProgram, 0, 2, n)
	}
	refused(down, api.ErrArg, api.CmdProgram, 0, 2, 4097)
	refused(m, api.ErrState, api.CmdProgram, 1, 2, 10)
	refused(m, api.ErrOld, api.CmdProgram, 0, 1, 10)
	bad := copies.Mesh(down)
	bad.Nodes[1].Program = api.Flash{}
	refused(bad, api.ErrArg, api.CmdStart, 1)
	bad.Nodes[1].Store = api.Flash{Sector: 512, Bytes: make([]byte, 2048)}
	refused(bad, api.ErrNone, api.CmdStart, 1)
	late := m
	late.ASN = 999999998
	refused(late, api.ErrArg, api.CmdProgram, 0, 2, 10) // it would start after the last slot
	for i := range 16 {
		m = apply(t, m, api.CmdJam, i%3, i, i, i, i, i+1)
		m = apply(t, m, api.CmdReplay, i%3, i%5, i, i)
	}
	refused(m, api.ErrFull, api.CmdJam, 0, 1, 1, 5, 5, 5)
	refused(m, api.ErrArg, api.CmdJam, 0, 1, 1, 5, 5, 0)
	refused(m, api.ErrFull, api.CmdReplay, 0, 2, 1, 1)
	refused(m, api.ErrArg, api.CmdReplay, 0, 5, 1, 1)
}

// P43.1: AQ2, the changes.
func TestApply(t *testing.T) {
	m := build(t, rand.New(rand.NewPCG(43, 4)), 4, 150, row(3, 100)...)
	m.ASN = 5
	changed := func(m, got api.Mesh, change func(*api.Mesh)) {
		t.Helper()
		want := copies.Mesh(m)
		change(&want)
		if !same(got, want) {
			t.Errorf("%v, not %v", got.ASN, want.ASN)
		}
		for i := range got.Nodes {
			got.Nodes[i].Store.Bytes[0]++
			got.Places[i].X++
		}
		for i := range got.Jams {
			got.Jams[i].Until++
		}
		for i := range got.Replays {
			got.Replays[i].From++
		}
	}
	before := copies.Mesh(m)
	started := func(id int) api.Node { n, _ := node.Start(m.Nodes[id], m.Layout, m.ASN); return n }
	changed(m, apply(t, m, api.CmdMove, 2, 0, 10000), func(m *api.Mesh) { m.Places[2] = api.Place{Y: 10000} })
	changed(m, apply(t, m, api.CmdStart, 1), func(m *api.Mesh) { m.Nodes[1] = started(1) })
	changed(m, apply(t, m, api.CmdStart, 0), func(m *api.Mesh) { m.Nodes[0] = started(0) })
	changed(m, apply(t, m, api.CmdJam, 2, 1, 2, 20000, 15, 1000000), func(m *api.Mesh) {
		m.Jams = []api.Jam{{Place: api.Place{X: 1, Y: 2}, Radius: 20000, Channel: 15, Until: 1000005}}
	})
	changed(m, apply(t, m, api.CmdJam, 2, 1, 2, 0, 0, 1), func(m *api.Mesh) { m.Jams = []api.Jam{{Place: api.Place{X: 1, Y: 2}, Until: 6}} })
	changed(m, apply(t, m, api.CmdReplay, 1, 4, 9, 8), func(m *api.Mesh) { m.Replays = []api.Replay{{ASN: 5, From: 4, Place: api.Place{X: 9, Y: 8}}} })
	if !same(m, before) {
		t.Fatal("memory is shared")
	}
	m = apply(t, m, api.CmdStart, 0)
	m = apply(t, m, api.CmdStart, 1)
	m.ASN = 100
	changed(m, apply(t, m, api.CmdFail, 1), func(m *api.Mesh) { m.Nodes[1].Up = false })
	changed(m, apply(t, m, api.CmdRead, 1, 42), func(m *api.Mesh) { m.Nodes[1], _ = node.Read(m.Nodes[1], 42, 100) })
	for _, size := range []int{1, 300, 4096} {
		x := apply(t, m, api.CmdProgram, 0, 1000000000, size)
		program := make([]byte, size)
		for i := range program {
			program[i] = byte(random.Below(1000003*1000000000+uint64(i), 256))
		}
		if whole, ok := image.Whole(x.Nodes[0].Spread); !ok || !bytes.Equal(whole, program) {
			t.Errorf("a program of %d bytes", size)
		}
		changed(m, x, func(m *api.Mesh) { m.Nodes[0], _ = node.Load(m.Nodes[0], 1000000000, program, (12+64)*8, 12) })
	}
}

// P43.8 (events).
func TestEvents(t *testing.T) {
	r := rand.New(rand.NewPCG(43, 5))
	m := build(t, r, 4, 150, row(5, 100)...)
	for id := 1; id < 4; id++ {
		m = apply(t, m, api.CmdStart, id)
	}
	event := func(id int) api.Event {
		kind := []int{api.CmdMove, api.CmdFail, api.CmdStart, api.CmdRead}[r.IntN(4)]
		return api.Event{Kind: kind, Node: id, N: []int{r.IntN(99), r.IntN(99)}[:map[int]int{api.CmdMove: 2, api.CmdRead: 1}[kind]]}
	}
	for range 200 {
		id := r.IntN(5)
		a, b := event(id), event((id+1+r.IntN(4))%5)
		x, e1 := mesh.Apply(m, a)
		y, e2 := mesh.Apply(m, b)
		if e1 != api.OK || e2 != api.OK {
			continue
		}
		x, e1 = mesh.Apply(x, b)
		y, e2 = mesh.Apply(y, a)
		if e1 != e2 || !same(x, y) {
			t.Fatalf("%v and %v", a, b)
		}
	}
}

// model says once more what Step does, sentence by sentence.
func model(m api.Mesh) (api.Mesh, []api.Heard) {
	m = copies.Mesh(m)
	count := len(m.Nodes)
	actions, frames := make([]api.Action, count), make([]api.Frame, count)
	places := slices.Clone(m.Places)
	were := make([]bool, count)
	for i, n := range m.Nodes {
		if were[i] = n.Up; n.Up {
			m.Nodes[i], actions[i], frames[i] = radio.Plan(n, m.Layout, m.ASN)
		}
	}
	for _, r := range m.Replays {
		for _, s := range m.Sent {
			if r.ASN == m.ASN && s.ASN == r.From && plane.Near(s.Place, r.Place, m.Range) && len(actions) < count+40 {
				actions = append(actions, api.Action{Do: api.RadioSend, Channel: s.Channel})
				frames = append(frames, s.Frame)
				places = append(places, r.Place)
			}
		}
	}
	caught, e := medium.Catch(actions, places, m.Range, m.Jams, m.ASN)
	if e != api.OK {
		caught = slices.Repeat([]int{-1}, len(actions))
	}
	var heard []api.Heard
	acks := make([]bool, count)
	for i, n := range m.Nodes {
		if k := caught[i]; n.Up && k >= 0 {
			local, e := clock.Show(n.Clock, max(0, 10000*m.ASN+actions[k].Start))
			if e != api.OK {
				local = 0
			}
			m.Nodes[i], acks[i] = node.Hear(n, m.Layout, frames[k], m.ASN, local)
			heard = append(heard, api.Heard{ASN: m.ASN, Node: i, Frame: frames[k]})
		}
	}
	replies := make([]api.Action, count)
	for i := range count {
		if acks[i] {
			replies[i] = api.Action{Do: api.RadioSend, Channel: actions[i].Channel}
		} else if actions[i].Do == api.RadioSend && frames[i].Kind == api.FrameData {
			replies[i] = api.Action{Do: api.RadioListen, Channel: actions[i].Channel}
		}
	}
	back, e := medium.Catch(replies, m.Places, m.Range, m.Jams, m.ASN)
	for i := range count {
		if f := frames[i]; actions[i].Do == api.RadioSend && f.Kind == api.FrameData {
			acked := e == api.OK && back[i] == f.To && f.To >= 0 && f.To < count && caught[f.To] == i && acks[f.To]
			m.Nodes[i] = node.Acked(m.Nodes[i], m.Layout, f, acked)
		}
	}
	f := length(m)
	for i := range count {
		if were[i] {
			m.Nodes[i] = radio.Pay(m.Nodes[i], actions[i].Do)
		}
		if m.ASN%f == count-1 && m.Nodes[i].Up {
			m.Nodes[i] = node.Turn(m.Nodes[i], m.Layout, m.ASN)
		}
	}
	m.Told = append(m.Told, m.Nodes[0].Queue.List...)
	m.Nodes[0].Queue.List = nil
	var sent []api.Sent
	for _, s := range m.Sent {
		if s.ASN > m.ASN-2*f {
			sent = append(sent, s)
		}
	}
	for i := range count {
		if actions[i].Do == api.RadioSend {
			sent = append(sent, api.Sent{ASN: m.ASN, Channel: actions[i].Channel, Place: m.Places[i], Frame: frames[i]})
		}
	}
	m.Sent = sent[max(0, len(sent)-4000):]
	var jams []api.Jam
	for _, j := range m.Jams {
		if j.Until > m.ASN+1 {
			jams = append(jams, j)
		}
	}
	var replays []api.Replay
	for _, r := range m.Replays {
		if r.ASN > m.ASN {
			replays = append(replays, r)
		}
	}
	m.Jams, m.Replays = jams, replays
	m.ASN++
	return m, heard
}

// odd changes something of a mesh.
func odd(r *rand.Rand, m api.Mesh) api.Mesh {
	m = copies.Mesh(m)
	id := r.IntN(len(m.Nodes))
	n := &m.Nodes[id]
	switch r.IntN(20) {
	case 0:
		n.Up = false
	case 1:
		n.Ledger.Left = r.IntN(100)
	case 2:
		for range 1 + r.IntN(50) {
			m.Replays = append(m.Replays, api.Replay{ASN: m.ASN, From: m.ASN - 1 - r.IntN(15), Place: m.Places[r.IntN(len(m.Places))]})
		}
		m.Replays = m.Replays[:min(16, len(m.Replays))]
	case 3:
		for k := range 12 {
			m.Jams = append(m.Jams, api.Jam{Place: m.Places[id], Radius: r.IntN(300), Channel: k, Until: m.ASN + r.IntN(3)})
		}
		m.Jams = m.Jams[:min(16, len(m.Jams))]
	case 4:
		m.ASN += r.IntN(4)
	case 5:
		for i := range m.Sent {
			m.Sent[i].ASN = m.ASN - []int{2 * length(m), 2*length(m) - 1, 1}[r.IntN(3)]
		}
	case 6:
		for len(m.Sent) > 0 && len(m.Sent) < 3999 {
			m.Sent = append(m.Sent, m.Sent[0])
		}
		for i := range m.Sent {
			m.Sent[i].ASN = m.ASN - 1
		}
		m.Replays = []api.Replay{{ASN: m.ASN, From: m.ASN - 1, Place: m.Places[id]}}
	case 7:
		m.Replays = []api.Replay{{ASN: m.ASN + 1, From: m.ASN - 1}, {ASN: m.ASN, From: m.ASN - 2}, {ASN: m.ASN - 1, From: 0}}
	case 8:
		if len(m.Sent) > 0 {
			m.Sent[len(m.Sent)-1].Channel = []int{16, -1, 3}[r.IntN(3)]
			m.Sent[len(m.Sent)-1].ASN = m.ASN - 1
			m.Replays = []api.Replay{{ASN: m.ASN, From: m.ASN - 1, Place: m.Sent[len(m.Sent)-1].Place}}
		}
	case 9:
		n.Clock.Drift = 51
	case 10:
		m.Nodes[0].Up = false
		m.Nodes[0].Queue.List = append(m.Nodes[0].Queue.List, api.Reading{Origin: 3, Number: 5})
	case 11:
		m.Range = r.IntN(400)
	case 12:
		m.Nodes[0].Route.Parent = 1
		m.Nodes[0].Queue.List = append(m.Nodes[0].Queue.List, api.Reading{Origin: 3, Number: 5})
		for s := range m.Layout.Data {
			m.Nodes[0].Table.Uses = append(m.Nodes[0].Table.Uses[:s:s], api.Use{Cell: api.Cell{Slot: s}, Peer: 1})
		}
	case 13:
		peer := []int{-1, len(m.Nodes), 59}[r.IntN(3)]
		n.Route.Parent = peer
		n.Queue.List = []api.Reading{{Origin: id, Number: 5}}
		for s := range m.Layout.Data {
			n.Table.Uses = append(n.Table.Uses[:min(s, len(n.Table.Uses)):s], api.Use{Cell: api.Cell{Slot: s}, Peer: peer})
		}
	case 14:
		for i := range m.Places {
			m.Places[i] = m.Places[0]
		}
	}
	return m
}

// P43.1: AQ3, compared with the model; P43.3 (hearing), P43.4 (energy) and P43.7 (told).
func TestStep(t *testing.T) {
	r := rand.New(rand.NewPCG(43, 6))
	received, data, told := 0, 0, 0
	for round := range 3 {
		m := up(t, r, 3+round, 4+round, []int{150, 250, 150}[round])
		for slot := range 900 {
			for k := range 2 {
				x := m
				if k == 1 {
					x = odd(r, m)
				}
				before := copies.Mesh(x)
				y, h := step(t, x)
				want, wh := model(x)
				if !same(y, want) || !same(h, wh) {
					t.Fatalf("round %d, slot %d: another mesh: %v, want %v", round, slot, h, wh)
				}
				check(t, x, y, h)
				for i := range h {
					if len(h[i].Frame.Body) > 0 {
						h[i].Frame.Body[0]++
					}
				}
				if !same(y, want) {
					t.Fatal("what was received shares memory with the mesh")
				}
				for i := range y.Nodes {
					y.Nodes[i].Store.Bytes[0]++
					y.Nodes[i].Program.Bytes[0]++
					for j := range y.Nodes[i].Near {
						y.Nodes[i].Near[j].Frame = -9
					}
					for j := range y.Nodes[i].Mail {
						y.Nodes[i].Mail[j].Key = -9
					}
				}
				for i := range y.Sent {
					y.Sent[i].ASN = -9
					if len(y.Sent[i].Frame.Body) > 0 {
						y.Sent[i].Frame.Body[0]++
					}
				}
				for i := range y.Places {
					y.Places[i].X++
				}
				for i := range y.Told {
					y.Told[i].Value = -9
				}
				if !same(x, before) {
					t.Fatal("memory is shared")
				}
			}
			var h []api.Heard
			m, h = step(t, m)
			received += len(h)
			for _, x := range h {
				if x.Frame.Kind == api.FrameData {
					data++
				}
			}
			if id := 1 + r.IntN(len(m.Nodes)-1); slot%9 == 0 && len(m.Nodes[id].Queue.List) < 9 {
				m = apply(t, m, api.CmdRead, id, slot)
			}
		}
		told += len(m.Told)
	}
	if received < 1000 || data < 100 || told < 100 {
		t.Errorf("%d frames are received, %d of them readings; %d are told", received, data, told)
	}
}

// check compares a mesh before and after a step with the promises.
func check(t *testing.T, x, y api.Mesh, h []api.Heard) {
	t.Helper()
	got := map[int]bool{}
	for _, k := range h {
		got[k.Node] = true
		from := slices.ContainsFunc(x.Nodes, func(n api.Node) bool {
			return n.Up && plane.Near(x.Places[n.ID], x.Places[k.Node], x.Range) && n.ID != k.Node
		})
		attacked := slices.ContainsFunc(x.Replays, func(r api.Replay) bool { return plane.Near(r.Place, x.Places[k.Node], x.Range) })
		if !x.Nodes[k.Node].Up || k.ASN != x.ASN || !from && !attacked {
			t.Fatalf("node %d receives %v", k.Node, k.Frame)
		}
	}
	for i, n := range x.Nodes {
		z := y.Nodes[i]
		if n.Ledger.Left+n.Ledger.Spent != z.Ledger.Left+z.Ledger.Spent || z.Ledger.Left < 0 {
			t.Fatalf("node %d: %v after %v", i, z.Ledger, n.Ledger)
		}
		if i == 0 {
			z.Queue, n.Queue = api.Queue{}, api.Queue{}
		}
		if !n.Up && (got[i] || !same(z, n)) {
			t.Fatalf("node %d is not up, but has changed", i)
		}
	}
	if len(y.Nodes[0].Queue.List) > 0 || len(y.Told) < len(x.Told) || !slices.Equal(y.Told[:len(x.Told)], x.Told) {
		t.Fatalf("told %v after %v", y.Told, x.Told)
	}
	if y.Layout != x.Layout || y.Range != x.Range || !slices.Equal(y.Places, x.Places) || y.ASN != x.ASN+1 {
		t.Fatalf("another mesh")
	}
}

// P43.1: at most 40 attackers send, and at most 4000 frames are kept.
func TestMany(t *testing.T) {
	m := build(t, rand.New(rand.NewPCG(43, 11)), 4, 150, row(2, 100)...)
	m = apply(t, m, api.CmdStart, 1) // a stranger, which listens on the channel 0
	m.ASN = 3
	m.Replays = []api.Replay{{ASN: 3, From: 2}, {ASN: 3, From: 2}}
	for others := range 60 {
		m.Sent = slices.Repeat([]api.Sent{{ASN: 2, Channel: 5}}, others)
		m.Sent = append(m.Sent, api.Sent{ASN: 2, Channel: 0, Frame: api.Frame{Kind: 9, From: others}})
		m.Replays = m.Replays[:1]
		if _, h := step(t, m); (len(h) == 1) != (others < 40) {
			t.Errorf("%d other attackers: %v", others, h)
		}
		m.Replays = m.Replays[:2] // each frame twice; the second frame on the channel makes noise
		if _, h := step(t, m); (len(h) == 1) != (others >= 20 && others < 40) {
			t.Errorf("%d other attackers, twice: %v", others, h)
		}
	}
	m = apply(t, m, api.CmdStart, 0)
	m.ASN, m.Replays = 7, nil
	for _, n := range []int{3998, 3999, 4000} {
		m.Sent = nil
		for i := range n {
			m.Sent = append(m.Sent, api.Sent{ASN: 5, Channel: i})
		}
		x, _ := step(t, m)
		if len(x.Sent) != min(4000, n+1) || x.Sent[0].Channel != max(0, n-3999) || x.Sent[len(x.Sent)-1].ASN != 7 {
			t.Errorf("%d frames: %d", n, len(x.Sent))
		}
	}
}

// The examples of the chapter.
func TestExamples(t *testing.T) {
	r := rand.New(rand.NewPCG(43, 7))
	m := build(t, r, 4, 150, row(1, 0)...)
	m = apply(t, m, api.CmdStart, 0)
	x, h := step(t, m)
	if len(h) > 0 || len(x.Sent) != 1 || x.Sent[0].Frame.Kind != api.FrameBeacon || x.Sent[0].Channel != 0 || x.ASN != 1 {
		t.Errorf("the root alone: %v %v", h, x.Sent)
	}
	m = build(t, r, 4, 150, row(2, 100)...)
	m = apply(t, m, api.CmdStart, 0)
	if m = run(t, m, 100); member(m.Nodes[1]) {
		t.Error("it was not started")
	}
	m = apply(t, m, api.CmdStart, 1)
	first := build(t, r, 4, 150, row(2, 100)...)
	first.Nodes[1].Clock = api.Clock{Offset: 70, Drift: 50}
	first = apply(t, apply(t, first, api.CmdStart, 0), api.CmdStart, 1)
	if x, h := step(t, first); len(h) != 1 || x.Nodes[1].Time.Span != (api.Span{Low: -70, High: -70, At: 70}) {
		t.Errorf("the first beacon: %v %v", h, x.Nodes[1].Time)
	}
	heard := false
	for range 200 {
		var h []api.Heard
		m, h = step(t, m)
		for _, x := range h {
			heard = heard || x.Node == 1 && x.Frame.Kind == api.FrameBeacon
		}
	}
	if !heard || !member(m.Nodes[1]) {
		t.Error("the root is not heard")
	}
}

// P43.2 (valid) and P43.9 (time), in a mesh in which nodes move and fail.
func TestTime(t *testing.T) {
	r := rand.New(rand.NewPCG(43, 8))
	m := up(t, r, 6, 5, 250)
	members := 0
	for slot := range 2500 {
		m, _ = step(t, m)
		now, e := 10000*m.ASN, api.OK
		for i, n := range m.Nodes {
			if !member(n) || i == 0 {
				continue
			}
			members++
			times, e := clock.When(n.Clock, n.Time.Span.At)
			low, high := n.Time.Span.Low+n.Time.Span.At, n.Time.Span.High+n.Time.Span.At
			if e != api.OK || times.High < low || times.Low > high || times.Low > now {
				t.Fatalf("slot %d: node %d knows %v, but At was at %v", slot, i, n.Time.Span, times)
			}
		}
		if id := r.IntN(6); slot%100 == 99 {
			switch {
			case !m.Nodes[id].Up:
				m = apply(t, m, api.CmdStart, id)
			case r.IntN(2) == 0:
				m = apply(t, m, api.CmdFail, id)
			default:
				m = apply(t, m, api.CmdMove, id, r.IntN(600), r.IntN(100))
			}
		}
		if _, e = mesh.Apply(m, api.Event{Kind: api.CmdMove, N: []int{0, 0}}); e != api.OK {
			t.Fatalf("slot %d: the mesh is not valid", slot)
		}
	}
	if members < 3000 {
		t.Errorf("only %d members", members)
	}
}

// P43.5 (replays).
func TestReplays(t *testing.T) {
	r := rand.New(rand.NewPCG(43, 9))
	m := run(t, up(t, r, 4, 5, 250), 900)
	m = apply(t, m, api.CmdRead, 3, 8)
	caught := 0
	for range 400 {
		from := m.ASN - []int{16, 16, 16, 1 + r.IntN(18)}[r.IntN(4)] // the common channel is the same after 16 slots
		x := apply(t, m, api.CmdReplay, 0, from, r.IntN(400), r.IntN(50))
		if r.IntN(2) == 0 {
			x = apply(t, x, api.CmdReplay, 0, max(0, m.ASN-10), 100, 0)
		}
		quiet, _ := step(t, m)
		y, h := step(t, x)
		for i, n := range y.Nodes {
			for _, k := range h {
				if k.Node != i || k.Frame.ASN == m.ASN || k.Frame.Kind == api.FrameJoin || !member(m.Nodes[i]) {
					continue
				}
				caught++
				alone, _, _ := radio.Plan(m.Nodes[i], m.Layout, m.ASN)
				alone = radio.Pay(alone, api.RadioListen)
				if m.ASN%length(m) == m.Layout.Nodes-1 {
					alone = node.Turn(alone, m.Layout, m.ASN)
				}
				if i == 0 {
					alone.Queue = api.Queue{}
				}
				if !same(n, alone) {
					t.Fatalf("slot %d: node %d is changed by %v", m.ASN, i, k.Frame)
				}
			}
		}
		m = quiet
	}
	if caught < 10 {
		t.Errorf("only %d replayed frames are caught", caught)
	}
}

// P43.6 (jammers).
func TestJammers(t *testing.T) {
	r := rand.New(rand.NewPCG(43, 10))
	m := run(t, up(t, r, 5, 5, 250), 900)
	lost := 0
	for range 300 {
		channel, radius := r.IntN(16), r.IntN(250)
		at := api.Place{X: r.IntN(500)}
		x := apply(t, m, api.CmdJam, 0, at.X, at.Y, radius, channel, 1+r.IntN(5))
		quiet, h := step(t, m)
		_, jammed := step(t, x)
		for _, k := range jammed {
			if !slices.ContainsFunc(h, func(a api.Heard) bool { return same(a, k) }) {
				t.Fatalf("slot %d: %v is new", m.ASN, k)
			}
		}
		for _, k := range h {
			if !slices.ContainsFunc(jammed, func(a api.Heard) bool { return same(a, k) }) {
				lost++
				if !plane.Near(at, m.Places[k.Node], radius) {
					t.Fatalf("slot %d: node %d is beyond the jammer's reach", m.ASN, k.Node)
				}
			}
		}
		m = quiet
	}
	if lost < 5 {
		t.Errorf("only %d frames are lost", lost)
	}
}
