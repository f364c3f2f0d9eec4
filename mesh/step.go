package mesh

import (
	"iter"
	"slices"

	"slotmesh/api"
	"slotmesh/clock"
	"slotmesh/copies"
	"slotmesh/medium"
	"slotmesh/node"
	"slotmesh/plane"
	"slotmesh/radio"
)

const (
	maxAttackers = 40
	nothing      = -1 // what a radio catches that catches no other one
)

// slot is what is known of a slot. Radios are those of the nodes, and then those of the attackers.
type slot struct {
	api.Mesh
	actions []api.Action
	frames  []api.Frame
	places  []api.Place
	caught  []int
	acks    []bool // which nodes acknowledge what they have caught
	heard   []api.Heard
}

// Step returns a mesh after a slot, and what was received.
func Step(m api.Mesh) (api.Mesh, []api.Heard, api.Errno) {
	if !valid(m) {
		return api.Mesh{}, nil, api.ErrArg
	}
	nodes := m.Nodes
	m.Nodes = nil // plan makes copies of them
	s := &slot{Mesh: copies.Mesh(m), acks: make([]bool, len(nodes))}
	s.Nodes = slices.Clone(nodes)
	steps := [...]func(){s.plan, s.attack, s.catch, s.hear, s.acknowledge, s.pay, s.turn, s.tell, s.remember}
	for _, step := range steps {
		step()
	}
	return s.Mesh, s.heard, api.OK
}

// up produces the nodes that are up, in increasing order.
func (s *slot) up() iter.Seq[int] {
	return func(yield func(int) bool) {
		for i := range s.Nodes {
			if s.Nodes[i].Up && !yield(i) {
				return
			}
		}
	}
}

// plan asks each node that is up what its radio does.
func (s *slot) plan() {
	s.actions = make([]api.Action, len(s.Nodes))
	s.frames = make([]api.Frame, len(s.Nodes))
	s.places = slices.Clone(s.Places)
	for i := range s.up() {
		s.Nodes[i], s.actions[i], s.frames[i] = radio.Plan(s.Nodes[i], s.Layout, s.ASN)
	}
	for i, n := range s.Nodes {
		if !n.Up {
			s.Nodes[i] = copies.Node(n)
		}
	}
}

// attack adds the radios of the attackers.
func (s *slot) attack() {
	for _, r := range s.Replays {
		for _, x := range s.Sent {
			if r.ASN != s.ASN || x.ASN != r.From || !plane.Near(x.Place, r.Place, s.Range) {
				continue
			}
			if len(s.actions) == len(s.Nodes)+maxAttackers {
				return
			}
			s.actions = append(s.actions, api.Action{Do: api.RadioSend, Channel: x.Channel})
			s.frames = append(s.frames, x.Frame)
			s.places = append(s.places, r.Place)
		}
	}
}

// caughtBy returns what radios catch. If that cannot be said, it is nothing.
func (s *slot) caughtBy(actions []api.Action, places []api.Place) []int {
	caught, err := medium.Catch(actions, places, s.Range, s.Jams, s.ASN)
	if err != api.OK {
		return slices.Repeat([]int{nothing}, len(actions))
	}
	return caught
}

func (s *slot) catch() { s.caught = s.caughtBy(s.actions, s.places) }

// began returns what the clock of a node shows when a radio begins to send; 0 if the clock is not valid.
func (s *slot) began(i, sender int) int {
	local, _ := clock.Show(s.Nodes[i].Clock, max(0, s.ASN*api.SlotTime+s.actions[sender].Start))
	return local
}

// hear lets the nodes hear what they have caught.
func (s *slot) hear() {
	for i := range s.up() {
		sender := s.caught[i]
		if sender < 0 {
			continue
		}
		f := s.frames[sender]
		s.Nodes[i], s.acks[i] = node.Hear(s.Nodes[i], s.Layout, f, s.ASN, s.began(i, sender))
		s.heard = append(s.heard, api.Heard{ASN: s.ASN, Node: i, Frame: copies.Frame(f)})
	}
}

// sentData reports whether a node has sent a reading. (Who sends nothing has no frame.)
func (s *slot) sentData(i int) bool { return s.frames[i].Kind == api.FrameData }

// acknowledge lets the nodes that have sent a reading know whether it was acknowledged.
func (s *slot) acknowledge() {
	replies := make([]api.Action, len(s.Nodes))
	for i := range s.Nodes {
		switch {
		case s.acks[i]:
			replies[i] = api.Action{Do: api.RadioSend, Channel: s.actions[i].Channel}
		case s.sentData(i):
			replies[i] = api.Action{Do: api.RadioListen, Channel: s.actions[i].Channel}
		}
	}
	caught := s.caughtBy(replies, s.Places)
	for i := range s.Nodes {
		if !s.sentData(i) {
			continue
		}
		to := s.frames[i].To
		acked := to >= 0 && caught[i] == to && s.caught[to] == i && s.acks[to]
		s.Nodes[i] = node.Acked(s.Nodes[i], s.Layout, s.frames[i], acked)
	}
}

// pay lets the nodes pay for the slot.
func (s *slot) pay() {
	for i := range s.up() {
		s.Nodes[i] = radio.Pay(s.Nodes[i], s.actions[i].Do)
	}
}

// turn turns to the data slots after the last beacon slot.
func (s *slot) turn() {
	if s.ASN%slots(s.Layout) != s.Layout.Nodes-1 {
		return
	}
	for i := range s.up() {
		s.Nodes[i] = node.Turn(s.Nodes[i], s.Layout, s.ASN)
	}
}

// tell takes the readings that have come to the root.
func (s *slot) tell() {
	s.Told = append(s.Told, s.Nodes[0].Queue.List...)
	s.Nodes[0].Queue = api.Queue{}
}

// remember keeps the frames for replays, and forgets what is over.
func (s *slot) remember() {
	for i := range s.Nodes {
		if s.actions[i].Do == api.RadioSend {
			s.Sent = append(s.Sent, api.Sent{ASN: s.ASN, Channel: s.actions[i].Channel, Place: s.Places[i], Frame: s.frames[i]})
		}
	}
	s.Sent = slices.DeleteFunc(s.Sent, func(x api.Sent) bool { return x.ASN <= s.ASN-2*slots(s.Layout) })
	s.Sent = s.Sent[max(0, len(s.Sent)-maxSent):]
	s.Jams = slices.DeleteFunc(s.Jams, func(j api.Jam) bool { return j.Until <= s.ASN+1 })
	s.Replays = slices.DeleteFunc(s.Replays, func(r api.Replay) bool { return r.ASN <= s.ASN })
	s.ASN++
}
