package queue_test

import (
	"fmt"
	"math"
	"math/rand/v2"
	"slices"
	"testing"

	"slotmesh/api"
	"slotmesh/queue"
)

func same(a, b any) bool { return fmt.Sprint(a) == fmt.Sprint(b) }

func reading(origin, number int) api.Reading { return api.Reading{Origin: origin, Number: number} }

func put(t *testing.T, q api.Queue, r api.Reading, me int) api.Queue {
	t.Helper()
	x, e := queue.Put(q, r, me)
	if e != api.OK {
		t.Fatalf("%v and %v: %v", q, r, e)
	}
	return x
}

// filled returns a queue with n readings of node 9.
func filled(n int) api.Queue {
	var q api.Queue
	for i := range n {
		q.List = append(q.List, reading(9, i+1))
	}
	return q
}

// The examples of the chapter.
func TestExamples(t *testing.T) {
	q := put(t, put(t, api.Queue{}, reading(2, 1), 5), reading(2, 2), 5)
	if h, ok := queue.Head(q); h != reading(2, 1) || !ok {
		t.Errorf("%v %v", h, ok)
	}
	q = queue.Drop(q, 2, 1)
	if h, ok := queue.Head(q); h != reading(2, 2) || !ok {
		t.Errorf("%v %v", h, ok)
	}
	if x, e := queue.Put(q, reading(2, 2), 5); e != api.ErrTwice || len(x.List) > 0 {
		t.Errorf("%v %v", x, e)
	}
}

// P27.1: AA1, in the order of its errors; P27.4 (places).
func TestPut(t *testing.T) {
	for n := range 17 {
		for me, origin := range map[int]int{3: 4, 4: 4} {
			x, e := queue.Put(filled(n), reading(origin, 1), me)
			ok := n < 12 || n < 16 && me == 3
			if ok != (e == api.OK) || ok && !same(x.List, append(filled(n).List, reading(4, 1))) || !ok && (e != api.ErrFull || len(x.List) > 0) {
				t.Errorf("%d readings, node %d: %v %v", n, me, x, e)
			}
			if n > 0 {
				if x, e := queue.Put(filled(n), api.Reading{Origin: 9, Number: n, Kind: 1, Value: 77}, 9); e != api.ErrTwice || len(x.List) > 0 {
					t.Errorf("%d readings, one again: %v", n, e)
				}
			}
		}
	}
	good := api.Reading{Origin: 59, Number: 1000000000, Kind: api.ReadJoin, Value: math.MinInt, At: 1000000000}
	put(t, api.Queue{}, good, 0)
	put(t, api.Queue{}, good, 59)
	for _, me := range []int{-1, 60, math.MaxInt, math.MinInt} {
		if x, e := queue.Put(filled(1), reading(9, 1), me); e != api.ErrArg || len(x.List) > 0 {
			t.Errorf("node %d: %v", me, e)
		}
	}
	for _, r := range wrong {
		if x, e := queue.Put(filled(16), r, 9); e != api.ErrArg || len(x.List) > 0 {
			t.Errorf("%v: %v", r, e)
		}
	}
}

// wrong are readings that are not well-formed.
var wrong = []api.Reading{
	{}, {Origin: -1, Number: 1}, {Origin: 60, Number: 1}, {Number: 1000000001}, {Number: -1}, {Number: 1, Kind: 2}, {Number: 1, Kind: -1}, {Number: 1, At: -1}, {Number: 1, At: 1000000001},
	{Origin: math.MinInt, Number: 1}, {Number: math.MaxInt}, {Number: 1, At: math.MaxInt}, {Number: 1, Kind: math.MinInt},
}

// P27.1: what happens to queues that are not valid.
func TestNotValid(t *testing.T) {
	bad := []api.Queue{{List: []api.Reading{reading(1, 1), reading(1, 1)}}, {List: []api.Reading{reading(1, 1), reading(2, 1), {Origin: 1, Number: 1, Value: 9, Kind: 1}}}, filled(17)}
	for _, r := range wrong {
		bad = append(bad, api.Queue{List: []api.Reading{r}}, api.Queue{List: []api.Reading{reading(1, 1), r}})
	}
	long := filled(16)
	long.List[15] = wrong[0]
	bad = append(bad, long)
	for _, q := range bad {
		x, e := queue.Put(q, reading(5, 5), 3)
		h, ok := queue.Head(q)
		if e != api.ErrArg || len(x.List) > 0 || h != (api.Reading{}) || ok || len(queue.Drop(q, 1, 1).List) > 0 || len(queue.Drop(q, 7, 7).List) > 0 || queue.Full(q) {
			t.Errorf("%v: %v %v", q, e, ok)
		}
	}
}

// P27.1: AA2 to AA4; P27.5 (pushing back).
func TestOthers(t *testing.T) {
	for n := range 17 {
		q := filled(n)
		h, ok := queue.Head(q)
		if ok != (n > 0) || ok && h != reading(9, 1) || !ok && h != (api.Reading{}) {
			t.Errorf("%d readings: %v %v", n, h, ok)
		}
		if queue.Full(q) != (n >= 14) {
			t.Errorf("%d readings: full %v", n, queue.Full(q))
		}
		for k := range n + 2 {
			want := slices.DeleteFunc(slices.Clone(q.List), func(r api.Reading) bool { return r.Number == k })
			x := queue.Drop(q, 9, k)
			if !same(x.List, want) || !same(q, filled(n)) {
				t.Errorf("%d readings without %d: %v", n, k, x)
			}
			if y := queue.Drop(q, 8, k); !same(y, q) {
				t.Errorf("%d readings without one of another node: %v", n, y)
			}
			for i := range x.List {
				x.List[i].Number = -1
			}
		}
		if !same(q, filled(n)) {
			t.Error("memory is shared")
		}
	}
	q := api.Queue{List: append(make([]api.Reading, 0, 9), reading(1, 1))}
	a, b := put(t, q, reading(2, 2), 0), put(t, q, reading(3, 3), 0)
	a.List[0].Value = 5
	if q.List[0].Value != 0 || a.List[1] != reading(2, 2) || b.List[1] != reading(3, 3) {
		t.Errorf("memory is shared: %v %v %v", q, a, b)
	}
}

// P27.2 (first in, first out), P27.3 (validity) and P27.6 (twice).
func TestInAndOut(t *testing.T) {
	r := rand.New(rand.NewPCG(27, 1))
	for range 300 {
		var q api.Queue
		var want []api.Reading
		me := r.IntN(3)
		for range 80 {
			x := api.Reading{Origin: r.IntN(3), Number: 1 + r.IntN(8), Kind: r.IntN(2), Value: r.IntN(9)}
			at := slices.IndexFunc(want, func(y api.Reading) bool { return y.Origin == x.Origin && y.Number == x.Number })
			if r.IntN(3) > 0 {
				next, e := queue.Put(q, x, me)
				switch {
				case at >= 0:
					if e != api.ErrTwice {
						t.Fatalf("%v and %v: %v", q, x, e)
					}
				case len(want) >= 16 || len(want) >= 12 && x.Origin == me:
					if e != api.ErrFull {
						t.Fatalf("%v and %v: %v", q, x, e)
					}
				default:
					if e != api.OK || !same(queue.Drop(next, x.Origin, x.Number), q) {
						t.Fatalf("%v and %v: %v %v", q, x, next, e)
					}
					q = next
					want = append(want, x)
				}
			} else {
				q = queue.Drop(q, x.Origin, x.Number)
				if at >= 0 {
					want = slices.Delete(want, at, at+1)
					if y, e := queue.Put(q, x, me); (e == api.OK) != (len(want) < 12 || len(want) < 16 && x.Origin != me) {
						t.Fatalf("%v and %v again: %v %v", q, x, y, e)
					}
				}
			}
			h, ok := queue.Head(q)
			if !same(q.List, want) || ok != (len(want) > 0) || ok && h != want[0] {
				t.Fatalf("%v, not %v: %v %v", q, want, h, ok)
			}
		}
	}
}
