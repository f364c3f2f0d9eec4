package copies_test

import (
	"fmt"
	"testing"

	"slotmesh/api"
	"slotmesh/copies"
)

// A copy is equal, and remains so when what was copied changes.
func TestSpread(t *testing.T) {
	s := api.Spread{Notice: api.Notice{Version: 3}, Pages: [][]byte{{1}, {2}}, Proofs: [][]uint64{{3}, nil}, Rows: []api.Row{{Mask: 5, Data: []byte{6}}}, Proof: []uint64{7}, Timer: api.Trickle{Seed: 8}}
	c := copies.Spread(s)
	before := fmt.Sprint(s)
	if fmt.Sprint(c) != before {
		t.Errorf("%v became %v", s, c)
	}
	s.Pages[0][0], s.Pages[1], s.Proofs[0][0], s.Proofs[1], s.Proof[0] = 9, nil, 9, []uint64{9}, 9
	s.Rows[0].Data[0], s.Rows[0].Mask = 9, 9
	if fmt.Sprint(c) != before {
		t.Errorf("memory is shared: %v", c)
	}
}

func TestNear(t *testing.T) {
	n := api.Near{Frame: 4, Told: api.Beacon{
		From: 3, Uses: []api.Use{{Stamp: 1}}, Grants: []api.Grant{{Until: 1}}, Asks: []api.Ask{{Peer: 1}}, Below: []api.Down{{Seq: 1}}, Words: []api.Word{{Key: 1}}, Mail: []api.Word{{Key: 2}}, Got: []int{1}, Has: true,
		Block: api.Block{Data: []byte{1}, Proof: []uint64{1}},
	}}
	c := copies.Near(n)
	before := fmt.Sprint(n)
	if fmt.Sprint(c) != before {
		t.Errorf("%v became %v", n, c)
	}
	b := n.Told
	b.Uses[0].Stamp, b.Grants[0].Until, b.Asks[0].Peer, b.Below[0].Seq, b.Words[0].Key, b.Mail[0].Key, b.Got[0], b.Block.Data[0], b.Block.Proof[0] = 9, 9, 9, 9, 9, 9, 9, 9, 9
	if fmt.Sprint(c) != before {
		t.Errorf("memory is shared: %v", c)
	}
}
