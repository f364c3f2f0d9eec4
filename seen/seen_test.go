package seen_test

import (
	"fmt"
	"math"
	"math/rand/v2"
	"slices"
	"testing"

	"slotmesh/api"
	"slotmesh/seen"
)

func same(a, b any) bool { return fmt.Sprint(a) == fmt.Sprint(b) }

// of returns the numbers of an origin, from pairs.
func of(origin int, pairs ...int) api.Seen {
	s := api.Seen{Origin: origin}
	for i := 0; i+1 < len(pairs); i += 2 {
		s.Sets = append(s.Sets, api.Range{Low: pairs[i], High: pairs[i+1]})
	}
	return s
}

func add(t *testing.T, l []api.Seen, origin, number int) []api.Seen {
	t.Helper()
	x, _, e := seen.Add(l, origin, number)
	if e != api.OK {
		t.Fatalf("%v and %d of %d: %v", l, number, origin, e)
	}
	return x
}

// build returns the lists of some numbers, by going through all of them.
func build(numbers map[[2]int]bool) []api.Seen {
	var l []api.Seen
	for o := range 60 {
		var s api.Seen
		for n := 1; n < 200; n++ {
			if !numbers[[2]int{o, n}] {
				continue
			}
			if k := len(s.Sets); k > 0 && s.Sets[k-1].High == n-1 {
				s.Sets[k-1].High = n
			} else {
				s.Sets = append(s.Sets, api.Range{Low: n, High: n})
			}
		}
		if len(s.Sets) > 0 {
			s.Origin = o
			l = append(l, s)
		}
	}
	return l
}

func size(l []api.Seen) int {
	n := 0
	for _, s := range l {
		n += len(s.Sets)
	}
	return n
}

// P26.1: Z1.
func TestValid(t *testing.T) {
	var many []int
	for i := range 65 {
		many = append(many, 1+2*i, 1+2*i)
	}
	for _, x := range []struct {
		l  []api.Seen
		ok bool
	}{
		{nil, true}, {[]api.Seen{of(3, 5, 5)}, true}, {[]api.Seen{of(0, 1, 1), of(59, 1, 1000000000)}, true}, {[]api.Seen{of(3, 1000000000, 1000000000)}, true}, {[]api.Seen{of(3, 1, 2, 4, 5)}, true},
		{[]api.Seen{of(3)}, false}, {[]api.Seen{of(3, 1, 2), of(4)}, false}, {[]api.Seen{of(3, 0, 1)}, false}, {[]api.Seen{of(3, -5, 1)}, false}, {[]api.Seen{of(3, 1, 1000000001)}, false}, {[]api.Seen{of(3, 2, 1)}, false},
		{[]api.Seen{of(3, 1, 2, 3, 5)}, false}, {[]api.Seen{of(3, 1, 2, 2, 5)}, false}, {[]api.Seen{of(3, 4, 5, 1, 2)}, false}, {[]api.Seen{of(3, 1, 1), of(3, 5, 5)}, false}, {[]api.Seen{of(3, 1, 1), of(2, 5, 5)}, false},
		{[]api.Seen{of(-1, 1, 1)}, false}, {[]api.Seen{of(60, 1, 1)}, false}, {[]api.Seen{of(math.MinInt, 1, 1)}, false}, {[]api.Seen{of(3, math.MinInt, math.MaxInt)}, false}, {[]api.Seen{of(3, 1, math.MaxInt)}, false}, {[]api.Seen{of(3, math.MaxInt, math.MaxInt)}, false},
		{[]api.Seen{of(3, many[:128]...)}, true}, {[]api.Seen{of(3, many...)}, false}, {[]api.Seen{of(3, many[:64]...), of(4, many[:64]...)}, true}, {[]api.Seen{of(3, many[:64]...), of(4, many[:66]...)}, false},
	} {
		if seen.Valid(x.l) != x.ok {
			t.Errorf("%v: not %v", x.l, x.ok)
		}
		if x.ok {
			continue
		}
		l, fresh, e := seen.Add(x.l, 3, 1)
		if e != api.ErrArg || fresh || len(l) > 0 || seen.Has(x.l, 3, 1) || seen.Has(x.l, 3, 5) || len(seen.Missing(x.l, 3, 5)) > 0 {
			t.Errorf("%v: %v %v %v", x.l, l, fresh, e)
		}
	}
}

// The examples of the chapter.
func TestExamples(t *testing.T) {
	l, fresh, e := seen.Add(nil, 3, 5)
	if !same(l, []api.Seen{of(3, 5, 5)}) || !fresh || e != api.OK {
		t.Errorf("%v %v %v", l, fresh, e)
	}
	l = add(t, l, 3, 7)
	if !same(l, []api.Seen{of(3, 5, 5, 7, 7)}) {
		t.Errorf("%v", l)
	}
	l = add(t, l, 3, 6)
	if !same(l, []api.Seen{of(3, 5, 7)}) {
		t.Errorf("%v", l)
	}
	if x, fresh, e := seen.Add(l, 3, 6); !same(x, l) || fresh || e != api.OK {
		t.Errorf("%v %v %v", x, fresh, e)
	}
	if m := seen.Missing(l, 3, 3); !slices.Equal(m, []int{1, 2, 3}) {
		t.Errorf("%v", m)
	}
}

// P26.1: Z2 and Z3; P26.2 (exactly), P26.3 (once), P26.7 (origins) and P26.8 (sizes).
func TestAdd(t *testing.T) {
	r := rand.New(rand.NewPCG(26, 1))
	for range 25 {
		var l []api.Seen
		numbers := map[[2]int]bool{}
		origins := []int{0, 59, r.IntN(60), r.IntN(60)}
		for range 60 {
			k := [2]int{origins[r.IntN(4)], 1 + r.IntN(30)}
			before := fmt.Sprint(l)
			next, fresh, e := seen.Add(l, k[0], k[1])
			if e != api.OK || fresh == numbers[k] {
				t.Fatalf("%v and %v: %v %v", l, k, fresh, e)
			}
			if d := size(next) - size(l); d < -1 || d > 1 || !fresh && !same(next, l) {
				t.Fatalf("%v and %v: %v", l, k, next)
			}
			numbers[k] = true
			if !same(next, build(numbers)) || !seen.Valid(next) {
				t.Fatalf("%v and %v: %v", l, k, next)
			}
			again, fresh, e := seen.Add(next, k[0], k[1])
			if fresh || e != api.OK || !same(again, next) {
				t.Fatalf("%v and %v, again: %v", next, k, again)
			}
			for i := range again {
				again[i].Sets[0].Low = -1
			}
			if !same(next, build(numbers)) || fmt.Sprint(l) != before {
				t.Fatal("memory is shared")
			}
			for _, o := range origins {
				for n := range 33 {
					if seen.Has(next, o, n) != numbers[[2]int{o, n}] {
						t.Fatalf("%v: %d of %d", next, n, o)
					}
				}
			}
			if len(l) > 0 {
				x, _, _ := seen.Add(l, k[0], k[1])
				for i := range x {
					x[i].Sets[0].Low = -1
				}
				if fmt.Sprint(l) != before {
					t.Fatal("memory is shared")
				}
			}
			l = next
		}
	}
	for _, x := range [][2]int{{-1, 5}, {60, 5}, {math.MaxInt, 5}, {math.MinInt, 5}, {3, 0}, {3, -1}, {3, 1000000001}, {3, math.MaxInt}, {3, math.MinInt}} {
		l := []api.Seen{of(3, 1, 9)}
		if y, fresh, e := seen.Add(l, x[0], x[1]); e != api.ErrArg || fresh || len(y) > 0 || seen.Has(l, x[0], x[1]) {
			t.Errorf("%v: %v %v %v", x, y, fresh, e)
		}
	}
	add(t, nil, 0, 1)
	add(t, nil, 59, 1000000000)
}

// P26.4 (order).
func TestOrder(t *testing.T) {
	r := rand.New(rand.NewPCG(26, 2))
	for range 300 {
		var numbers [][2]int
		for range r.IntN(50) {
			numbers = append(numbers, [2]int{r.IntN(3), 1 + r.IntN(20)})
		}
		var a, b []api.Seen
		for _, k := range numbers {
			a = add(t, a, k[0], k[1])
		}
		r.Shuffle(len(numbers), func(i, k int) { numbers[i], numbers[k] = numbers[k], numbers[i] })
		for _, k := range numbers {
			b = add(t, b, k[0], k[1])
		}
		if !same(a, b) {
			t.Fatalf("%v: %v and %v", numbers, a, b)
		}
	}
}

// P26.5 (room).
func TestRoom(t *testing.T) {
	var l []api.Seen
	for i := range 64 {
		l = add(t, l, i/10, 10+3*(i%10))
	}
	for o := range 8 {
		for n := 1; n < 60; n++ {
			near := seen.Has(l, o, n) || seen.Has(l, o, n-1) || seen.Has(l, o, n+1)
			x, fresh, e := seen.Add(l, o, n)
			if near != (e == api.OK) || !near && (e != api.ErrFull || fresh || len(x) > 0) {
				t.Errorf("%d of %d: %v %v", n, o, fresh, e)
			}
		}
	}
	l = add(t, add(t, l, 0, 11), 0, 12) // joins two intervals
	if size(l) != 63 {
		t.Errorf("%d intervals", size(l))
	}
	add(t, l, 50, 5)
}

// P26.1: Z4; P26.6 (gaps).
func TestMissing(t *testing.T) {
	l := []api.Seen{of(3, 2, 3, 6, 6, 9, 9), of(5, 1, 4)}
	for _, x := range []struct {
		origin, most int
		want         []int
	}{
		{3, 9, []int{1, 4, 5, 7, 8}}, {3, 5, []int{1, 4, 5, 7, 8}}, {3, 4, []int{1, 4, 5, 7}}, {3, 1, []int{1}}, {3, 0, nil}, {3, -1, nil}, {3, math.MinInt, nil}, {3, math.MaxInt, []int{1, 4, 5, 7, 8}},
		{5, 9, nil}, {4, 9, nil}, {-1, 9, nil}, {math.MaxInt, 9, nil},
	} {
		if m := seen.Missing(l, x.origin, x.most); !slices.Equal(m, x.want) {
			t.Errorf("%v: %v", x, m)
		}
	}
	if m := seen.Missing([]api.Seen{of(3, 1000000000, 1000000000)}, 3, 2); !slices.Equal(m, []int{1, 2}) {
		t.Errorf("%v", m)
	}
	r := rand.New(rand.NewPCG(26, 3))
	for range 300 {
		var l []api.Seen
		for range 1 + r.IntN(20) {
			l = add(t, l, r.IntN(2), 1+r.IntN(30))
		}
		for o := range 2 {
			missing := seen.Missing(l, o, 100)
			greatest := 0
			for n := range 40 {
				if seen.Has(l, o, n) {
					greatest = n
				}
			}
			for n := 1; n < 40; n++ {
				if slices.Contains(missing, n) != (n < greatest && !seen.Has(l, o, n)) {
					t.Fatalf("%v: %d: %v", l, o, missing)
				}
			}
			x := l
			for _, n := range missing {
				x = add(t, x, o, n)
			}
			for _, s := range x {
				if s.Origin == o && !same(s, of(o, 1, greatest)) {
					t.Fatalf("%v: %v", l, x)
				}
			}
		}
	}
}
