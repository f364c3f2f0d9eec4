package copies_test

import (
	"fmt"
	"testing"

	"slotmesh/api"
	"slotmesh/copies"
)

// A copy is equal, and remains so when what was copied changes.
func TestSpread(t *testing.T) {
	s := api.Spread{Notice: api.Notice{Version: 3}, Pages: [][]byte{{1}, {2}}, Proofs: [][]uint64{{3}, nil}, Rows: []api.Row{{Mask: 5, Data: []byte{6}}}, Proof: []uint64{7}, Timer: api.Trickle{Seed: 8}}
	c := copies.Spread(s)
	before := fmt.Sprint(s)
	if fmt.Sprint(c) != before {
		t.Errorf("%v became %v", s, c)
	}
	s.Pages[0][0], s.Pages[1], s.Proofs[0][0], s.Proofs[1], s.Proof[0] = 9, nil, 9, []uint64{9}, 9
	s.Rows[0].Data[0], s.Rows[0].Mask = 9, 9
	if fmt.Sprint(c) != before {
		t.Errorf("memory is shared: %v", c)
	}
}

func TestNear(t *testing.T) {
	n := api.Near{Frame: 4, Told: api.Beacon{
		From: 3, Uses: []api.Use{{Stamp: 1}}, Grants: []api.Grant{{Until: 1}}, Asks: []api.Ask{{Peer: 1}}, Below: []api.Down{{Seq: 1}}, Words: []api.Word{{Key: 1}}, Mail: []api.Word{{Key: 2}}, Got: []int{1}, Has: true,
		Block: api.Block{Data: []byte{1}, Proof: []uint64{1}},
	}}
	c := copies.Near(n)
	before := fmt.Sprint(n)
	if fmt.Sprint(c) != before {
		t.Errorf("%v became %v", n, c)
	}
	b := n.Told
	b.Uses[0].Stamp, b.Grants[0].Until, b.Asks[0].Peer, b.Below[0].Seq, b.Words[0].Key, b.Mail[0].Key, b.Got[0], b.Block.Data[0], b.Block.Proof[0] = 9, 9, 9, 9, 9, 9, 9, 9, 9
	if fmt.Sprint(c) != before {
		t.Errorf("memory is shared: %v", c)
	}
}

func node() api.Node {
	return api.Node{
		ID: 1, Half: []api.Half{{Key: 1}}, Table: api.Table{Uses: []api.Use{{Stamp: 1}}, Grants: []api.Grant{{Until: 1}}, Asks: []api.Ask{{Peer: 1}}}, Near: []api.Near{{Frame: 1, Told: api.Beacon{Got: []int{1}}}},
		Links: []api.Link{{Sent: 1}}, Below: []api.Down{{Seq: 1}}, Queue: api.Queue{List: []api.Reading{{Value: 1}}}, Store: api.Flash{Sector: 1, Bytes: []byte{1}}, Seen: []api.Seen{{Origin: 1, Sets: []api.Range{{Low: 1}}}},
		Mail: []api.Word{{Key: 1}}, Got: []int{1}, Spread: api.Spread{Proof: []uint64{1}}, Program: api.Flash{Sector: 1, Bytes: []byte{1}},
	}
}

// scribble changes all the memory of a node.
func scribble(n api.Node) {
	n.Half[0].Key, n.Table.Uses[0].Stamp, n.Table.Grants[0].Until, n.Table.Asks[0].Peer, n.Near[0].Told.Got[0] = 9, 9, 9, 9, 9
	n.Near[0].Frame, n.Links[0].Sent, n.Below[0].Seq, n.Queue.List[0].Value, n.Store.Bytes[0], n.Seen[0].Sets[0].Low = 9, 9, 9, 9, 9, 9
	n.Seen[0].Origin, n.Mail[0].Key, n.Got[0], n.Spread.Proof[0], n.Program.Bytes[0] = 9, 9, 9, 9, 9
}

func TestNode(t *testing.T) {
	n := node()
	c := copies.Node(n)
	before := fmt.Sprint(n)
	if fmt.Sprint(c) != before {
		t.Errorf("%v became %v", n, c)
	}
	scribble(n)
	if fmt.Sprint(c) != before {
		t.Errorf("memory is shared: %v", c)
	}
}

func TestMesh(t *testing.T) {
	m := api.Mesh{
		ASN: 4, Nodes: []api.Node{node(), node()}, Places: []api.Place{{X: 1}}, Jams: []api.Jam{{Until: 1}}, Replays: []api.Replay{{From: 1}},
		Sent: []api.Sent{{ASN: 1, Frame: api.Frame{Body: []byte{1}}}}, Told: []api.Reading{{Value: 1}},
	}
	c := copies.Mesh(m)
	before := fmt.Sprint(m)
	if fmt.Sprint(c) != before {
		t.Errorf("%v became %v", m, c)
	}
	scribble(m.Nodes[1])
	m.Nodes[0].ID, m.Places[0].X, m.Jams[0].Until, m.Replays[0].From, m.Sent[0].Frame.Body[0], m.Told[0].Value = 9, 9, 9, 9, 9, 9
	m.Sent[0].ASN = 9
	if fmt.Sprint(c) != before {
		t.Errorf("memory is shared: %v", c)
	}
}
