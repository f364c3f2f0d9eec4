// Package copies makes copies of values that contain slices, so that a result shares no memory with an argument.
package copies

import (
	"slices"

	"slotmesh/api"
)

// Each returns a list of copies.
func Each[E any](list []E, one func(E) E) []E {
	all := make([]E, 0, len(list))
	for _, x := range list {
		all = append(all, one(x))
	}
	return all
}

// Lists returns copies of lists.
func Lists[E any](lists [][]E) [][]E {
	return Each(lists, func(l []E) []E { return slices.Clone(l) })
}

// Rows returns copies of equations.
func Rows(l []api.Row) []api.Row {
	return Each(l, func(x api.Row) api.Row { return api.Row{Mask: x.Mask, Data: slices.Clone(x.Data)} })
}

// Spread returns a copy of a program that is being loaded.
func Spread(s api.Spread) api.Spread {
	s.Pages = Lists(s.Pages)
	s.Proofs = Lists(s.Proofs)
	s.Rows = Rows(s.Rows)
	s.Proof = slices.Clone(s.Proof)
	return s
}
