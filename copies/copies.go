// Package copies makes copies of values that contain slices, so that a result shares no memory with an argument.
package copies

import "slices"

// Each returns a list of copies.
func Each[E any](list []E, one func(E) E) []E {
	if list == nil {
		return nil
	}
	all := make([]E, 0, len(list))
	for _, x := range list {
		all = append(all, one(x))
	}
	return all
}

// Lists returns copies of lists.
func Lists[E any](lists [][]E) [][]E {
	return Each(lists, func(l []E) []E { return slices.Clone(l) })
}
