// Package copies makes copies of values that contain slices, so that a result shares no memory with an argument.
package copies

import (
	"slices"

	"slotmesh/api"
)

// Each returns a list of copies.
func Each[E any](list []E, one func(E) E) []E {
	all := make([]E, 0, len(list))
	for _, x := range list {
		all = append(all, one(x))
	}
	return all
}

// Lists returns copies of lists.
func Lists[E any](lists [][]E) [][]E {
	return Each(lists, func(l []E) []E { return slices.Clone(l) })
}

// Rows returns copies of equations.
func Rows(l []api.Row) []api.Row {
	return Each(l, func(x api.Row) api.Row { return api.Row{Mask: x.Mask, Data: slices.Clone(x.Data)} })
}

// Spread returns a copy of a program that is being loaded.
func Spread(s api.Spread) api.Spread {
	s.Pages = Lists(s.Pages)
	s.Proofs = Lists(s.Proofs)
	s.Rows = Rows(s.Rows)
	s.Proof = slices.Clone(s.Proof)
	return s
}

// Block returns a copy of a coded block.
func Block(b api.Block) api.Block {
	b.Data = slices.Clone(b.Data)
	b.Proof = slices.Clone(b.Proof)
	return b
}

// Beacon returns a copy of a beacon.
func Beacon(b api.Beacon) api.Beacon {
	b.Uses = slices.Clone(b.Uses)
	b.Grants = slices.Clone(b.Grants)
	b.Asks = slices.Clone(b.Asks)
	b.Below = slices.Clone(b.Below)
	b.Words = slices.Clone(b.Words)
	b.Mail = slices.Clone(b.Mail)
	b.Got = slices.Clone(b.Got)
	b.Block = Block(b.Block)
	return b
}

// Near returns a copy of what is known of a neighbour.
func Near(n api.Near) api.Near { return api.Near{Frame: n.Frame, Told: Beacon(n.Told)} }
