// Package copies makes copies of values that contain slices, so that a result shares no memory with an argument.
package copies

import (
	"slices"

	"slotmesh/api"
)

// Each returns a list of copies.
func Each[E any](list []E, one func(E) E) []E {
	all := make([]E, 0, len(list))
	for _, x := range list {
		all = append(all, one(x))
	}
	return all
}

// Lists returns copies of lists.
func Lists[E any](lists [][]E) [][]E {
	return Each(lists, func(l []E) []E { return slices.Clone(l) })
}

// Rows returns copies of equations.
func Rows(l []api.Row) []api.Row {
	return Each(l, func(x api.Row) api.Row { return api.Row{Mask: x.Mask, Data: slices.Clone(x.Data)} })
}

// Spread returns a copy of a program that is being loaded.
func Spread(s api.Spread) api.Spread {
	s.Pages = Lists(s.Pages)
	s.Proofs = Lists(s.Proofs)
	s.Rows = Rows(s.Rows)
	s.Proof = slices.Clone(s.Proof)
	return s
}

// Block returns a copy of a coded block.
func Block(b api.Block) api.Block {
	b.Data = slices.Clone(b.Data)
	b.Proof = slices.Clone(b.Proof)
	return b
}

// Beacon returns a copy of a beacon.
func Beacon(b api.Beacon) api.Beacon {
	b.Uses = slices.Clone(b.Uses)
	b.Grants = slices.Clone(b.Grants)
	b.Asks = slices.Clone(b.Asks)
	b.Below = slices.Clone(b.Below)
	b.Words = slices.Clone(b.Words)
	b.Mail = slices.Clone(b.Mail)
	b.Got = slices.Clone(b.Got)
	b.Block = Block(b.Block)
	return b
}

// Near returns a copy of what is known of a neighbour.
func Near(n api.Near) api.Near { return api.Near{Frame: n.Frame, Told: Beacon(n.Told)} }

// Table returns a copy of a table.
func Table(t api.Table) api.Table {
	return api.Table{Uses: slices.Clone(t.Uses), Grants: slices.Clone(t.Grants), Asks: slices.Clone(t.Asks)}
}

// Flash returns a copy of a memory.
func Flash(f api.Flash) api.Flash {
	return api.Flash{Sector: f.Sector, Bytes: slices.Clone(f.Bytes)}
}

// Seen returns a copy of the numbers of an origin.
func Seen(s api.Seen) api.Seen {
	return api.Seen{Origin: s.Origin, Sets: slices.Clone(s.Sets)}
}

// Node returns a copy of a node.
func Node(n api.Node) api.Node {
	n.Half = slices.Clone(n.Half)
	n.Table = Table(n.Table)
	n.Near = Each(n.Near, Near)
	n.Links = slices.Clone(n.Links)
	n.Below = slices.Clone(n.Below)
	n.Queue.List = slices.Clone(n.Queue.List)
	n.Store = Flash(n.Store)
	n.Seen = Each(n.Seen, Seen)
	n.Mail = slices.Clone(n.Mail)
	n.Got = slices.Clone(n.Got)
	n.Spread = Spread(n.Spread)
	n.Program = Flash(n.Program)
	return n
}

// Frame returns a copy of a frame on the air.
func Frame(f api.Frame) api.Frame {
	f.Body = slices.Clone(f.Body)
	return f
}

// Sent returns a copy of a frame that was sent.
func Sent(s api.Sent) api.Sent {
	s.Frame = Frame(s.Frame)
	return s
}

// Mesh returns a copy of a mesh.
func Mesh(m api.Mesh) api.Mesh {
	m.Nodes = Each(m.Nodes, Node)
	m.Places = slices.Clone(m.Places)
	m.Jams = slices.Clone(m.Jams)
	m.Replays = slices.Clone(m.Replays)
	m.Sent = Each(m.Sent, Sent)
	m.Told = slices.Clone(m.Told)
	return m
}
