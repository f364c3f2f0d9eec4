package custody_test

import (
	"bytes"
	"fmt"
	"math"
	"math/rand/v2"
	"slices"
	"testing"

	"slotmesh/api"
	"slotmesh/custody"
	"slotmesh/journal"
	"slotmesh/wire"
)

func same(a, b any) bool { return fmt.Sprint(a) == fmt.Sprint(b) }

func empty(t *testing.T) api.Flash {
	t.Helper()
	f, e := custody.Format()
	if e != api.OK {
		t.Fatalf("Format: %v", e)
	}
	return f
}

func last(l []api.Flash) api.Flash { return l[len(l)-1] }

func reading(origin, number int) api.Reading {
	return api.Reading{Origin: origin, Number: number, Value: 70, At: 5}
}

func take(t *testing.T, f api.Flash, me int, r api.Reading) api.Flash {
	t.Helper()
	l, e := custody.Take(f, me, r)
	if e != api.OK {
		t.Fatalf("taking %v: %v", r, e)
	}
	return last(l)
}

func give(t *testing.T, f api.Flash, me, origin, number int) api.Flash {
	t.Helper()
	l, e := custody.Give(f, me, origin, number)
	if e != api.OK {
		t.Fatalf("giving %d of %d: %v", number, origin, e)
	}
	return last(l)
}

// check compares what is held with what should be.
func check(t *testing.T, f api.Flash, me int, want []api.Reading, count int) {
	t.Helper()
	l, n, e := custody.Held(f, me)
	if e != api.OK || !same(l, want) || n != count {
		t.Fatalf("held: %v, %d, %v, want %v, %d", l, n, e, want, count)
	}
}

// record writes numbers one after the other.
func record(numbers ...int) []byte {
	var b []byte
	for _, n := range numbers {
		b, _ = wire.PutNumber(b, n)
	}
	return b
}

func taking(r api.Reading) []byte {
	return record(1, r.Origin, r.Number, r.Kind, r.Value, r.At)
}

// with returns a memory with records.
func with(t *testing.T, records ...[]byte) api.Flash {
	t.Helper()
	f := empty(t)
	for _, x := range records {
		l, e := journal.Append(f, x)
		if e != api.OK {
			t.Fatalf("%v: %v", x, e)
		}
		f = last(l)
	}
	return f
}

// P25.1: Y1 and Y2.
func TestHeld(t *testing.T) {
	f := empty(t)
	if want, _ := journal.Format(512, 4); !same(f, want) {
		t.Error("Format")
	}
	check(t, f, 3, nil, 0)
	a := api.Reading{Origin: 3, Number: 8, Kind: 1, Value: 10000000000000, At: 1000000000}
	b := api.Reading{Origin: 59, Number: 1000000000}
	f = with(t, taking(a), taking(b), record(3, 7))
	check(t, f, 3, []api.Reading{a, b}, 8)
	check(t, f, 59, []api.Reading{a, b}, 1000000000)
	check(t, f, 0, []api.Reading{a, b}, 7)
	f = with(t, record(3, 7), taking(a), record(2, 3, 8), taking(b), taking(a), record(3, 9), record(3, 2))
	check(t, f, 3, []api.Reading{b, a}, 9)
	for _, me := range []int{-1, 60, math.MaxInt, math.MinInt} {
		l, n, e := custody.Held(f, me)
		l2, e2 := custody.Take(api.Flash{}, me, a)
		l3, e3 := custody.Give(api.Flash{}, me, 3, 8)
		if e != api.ErrArg || e2 != api.ErrArg || e3 != api.ErrArg || len(l)+len(l2)+len(l3)+n > 0 {
			t.Errorf("node %d: %v %v %v", me, e, e2, e3)
		}
	}
	damaged := with(t, taking(a))
	damaged.Bytes[9] ^= 1
	for _, x := range []struct {
		f api.Flash
		e api.Errno
	}{{api.Flash{}, api.ErrArg}, {api.Flash{Sector: 512, Bytes: make([]byte, 2048)}, api.ErrNone}, {damaged, api.ErrSum}} {
		l, n, e := custody.Held(x.f, 3)
		l2, e2 := custody.Take(x.f, 3, api.Reading{})
		l3, e3 := custody.Give(x.f, 3, 99, 8)
		if e != x.e || e2 != x.e || e3 != x.e || len(l)+len(l2)+len(l3)+n > 0 {
			t.Errorf("%v: %v %v %v", x.e, e, e2, e3)
		}
	}
}

// P25.1: Y2: records that are wrong.
func TestWrongRecords(t *testing.T) {
	a := reading(3, 8)
	var many [][]byte
	for i := range 17 {
		many = append(many, taking(reading(i, 1)))
	}
	check(t, with(t, many[:16]...), 59, firsts(16), 0)
	for i, l := range [][][]byte{
		{nil}, {record(0)}, {record(4, 1)}, {record(-1)}, {record(3)}, {record(3, 0)}, {record(3, 1000000001)}, {record(3, -5)}, {record(3, 1, 1)}, {append(record(3, 1), 128)}, {{3 * 2, 128}}, {{128, 0}},
		{taking(a), taking(a)}, {taking(a), taking(api.Reading{Origin: 3, Number: 8, Value: 1})}, {record(2, 3, 8)}, {taking(a), record(2, 3, 9)}, {taking(a), record(2, 4, 8)}, {taking(a), record(2, 3, 8), record(2, 3, 8)},
		{taking(a), record(2, 3)}, {taking(a), record(2, 3, 8, 0)}, {taking(a)[:5]}, {append(taking(a), 0)}, {record(1, 60, 1, 0, 0, 0)}, {record(1, -1, 1, 0, 0, 0)}, {record(1, 3, 0, 0, 0, 0)}, {record(1, 3, 1000000001, 0, 0, 0)},
		{record(1, 3, 1, 2, 0, 0)}, {record(1, 3, 1, -1, 0, 0)}, {record(1, 3, 1, 0, -1, 0)}, {record(1, 3, 1, 0, 0, -1)}, {record(1, 3, 1, 0, 0, 1000000001)}, many, {record(3, 5), record(3, 0)}, {taking(reading(0, 2)), record(2)}, {taking(reading(2, 2)), record(2, 2)},
	} {
		f := with(t, l...)
		x, n, e := custody.Held(f, 3)
		l2, e2 := custody.Take(f, 3, api.Reading{})
		l3, e3 := custody.Give(f, 3, 99, 8)
		if e != api.ErrKind || e2 != api.ErrKind || e3 != api.ErrKind || len(x)+len(l2)+len(l3)+n > 0 {
			t.Errorf("records %d: %v %v %v", i, e, e2, e3)
		}
	}
}

// firsts returns the readings 1 of the first n nodes.
func firsts(n int) []api.Reading {
	var l []api.Reading
	for i := range n {
		l = append(l, reading(i, 1))
	}
	return l
}

// The examples of the chapter; P25.1: the errors of Y3 and Y4.
func TestErrors(t *testing.T) {
	f := take(t, empty(t), 3, reading(3, 1))
	check(t, f, 3, []api.Reading{reading(3, 1)}, 1)
	f = take(t, f, 3, reading(7, 9))
	check(t, f, 3, []api.Reading{reading(3, 1), reading(7, 9)}, 1)
	both := f
	f = give(t, f, 3, 3, 1)
	check(t, f, 3, []api.Reading{reading(7, 9)}, 1)
	refused := func(f api.Flash, me int, r api.Reading, want api.Errno) {
		t.Helper()
		if l, e := custody.Take(f, me, r); e != want || len(l) > 0 {
			t.Errorf("taking %v: %v, want %v", r, e, want)
		}
	}
	refused(f, 3, reading(3, 1), api.ErrOld)
	refused(f, 3, reading(7, 9), api.ErrTwice)
	refused(f, 3, api.Reading{Origin: 7, Number: 9, Kind: 1, Value: 3}, api.ErrTwice)
	refused(both, 3, reading(3, 1), api.ErrTwice)
	for _, r := range []api.Reading{
		{}, {Origin: -1, Number: 1}, {Origin: 60, Number: 1}, {Origin: 7, Number: 0}, {Origin: 7, Number: 1000000001}, {Origin: 7, Number: 1, Kind: 2}, {Origin: 7, Number: 1, Kind: -1}, {Origin: 7, Number: 1, Value: -1},
		{Origin: 7, Number: 1, Value: 10000000000001}, {Origin: 7, Number: 1, At: -1}, {Origin: 7, Number: 1, At: 1000000001}, {Origin: 7, Number: 9, At: -1}, {Origin: 3, Number: 1, Value: -1}, {Origin: 7, Number: math.MinInt}, {Origin: 7, Number: 1, Value: math.MaxInt},
	} {
		refused(f, 3, r, api.ErrArg)
	}
	full := empty(t)
	for i := range 16 {
		full = take(t, full, 3, reading(3, 1+i))
	}
	refused(full, 3, reading(3, 17), api.ErrFull)
	refused(full, 3, reading(3, 16), api.ErrTwice)
	refused(give(t, take(t, give(t, full, 3, 3, 16), 3, reading(9, 1)), 3, 9, 1), 3, reading(3, 16), api.ErrOld)
	refused(take(t, give(t, full, 3, 3, 16), 3, reading(9, 1)), 3, reading(3, 16), api.ErrOld) // also if it is full
	refused(full, 3, api.Reading{Origin: 3, Number: 17, At: -1}, api.ErrArg)
	for _, x := range [][2]int{{7, 8}, {8, 9}, {-1, 9}, {7, -9}, {math.MaxInt, math.MinInt}, {3, 1}} {
		if l, e := custody.Give(f, 3, x[0], x[1]); e != api.ErrNone || len(l) > 0 {
			t.Errorf("giving %v: %v", x, e)
		}
	}
}

// P25.1: the memories of Y3 and Y4, with rewriting; P25.3 (sequence), P25.4 (numbers), P25.5 (room) and P25.7 (others).
func TestSequence(t *testing.T) {
	r := rand.New(rand.NewPCG(25, 1))
	for i := range 6 {
		f, me := empty(t), []int{0, 3, 59}[i%3] // node 59 has no readings of its own
		var held []api.Reading
		count, rewritten := 0, 0
		for range 150 {
			x := api.Reading{Origin: r.IntN(4), Number: 1 + r.IntN(40), Kind: r.IntN(2), Value: []int{0, 5, 10000000000000}[r.IntN(3)], At: r.IntN(1000)}
			if x.Origin == me {
				x.Number = count + r.IntN(3)
			}
			at := slices.IndexFunc(held, func(h api.Reading) bool { return h.Origin == x.Origin && h.Number == x.Number })
			var l, want []api.Flash
			var e api.Errno
			var rec []byte
			we := api.OK
			if r.IntN(5) < 3 {
				l, e = custody.Take(f, me, x)
				switch {
				case x.Number == 0:
					we = api.ErrArg
				case at >= 0:
					we = api.ErrTwice
				case x.Origin == me && x.Number <= count:
					we = api.ErrOld
				case len(held) == 16:
					we = api.ErrFull
				default:
					rec = taking(x)
					held = append(held, x)
					if x.Origin == me {
						count = x.Number
					}
				}
			} else {
				if len(held) > 0 {
					x = held[r.IntN(len(held))]
					at = slices.Index(held, x)
				}
				l, e = custody.Give(f, me, x.Origin, x.Number)
				if at < 0 {
					we = api.ErrNone
				} else {
					rec = record(2, x.Origin, x.Number)
					held = slices.Delete(held, at, at+1)
				}
			}
			if e != we || e != api.OK && len(l) > 0 {
				t.Fatalf("%v of %v: %v, want %v", x, held, e, we)
			}
			if e != api.OK {
				continue
			}
			want, we = journal.Append(f, rec)
			if we == api.ErrFull {
				rewritten++
				var short [][]byte
				if count > 0 {
					short = append(short, record(3, count))
				}
				for _, h := range held {
					short = append(short, taking(h))
				}
				want, we = journal.Compact(f, short)
			}
			if we != api.OK || !slices.EqualFunc(l, want, func(a, b api.Flash) bool { return bytes.Equal(a.Bytes, b.Bytes) }) {
				t.Fatalf("%v of %v: other memories", x, held)
			}
			f = last(l)
			check(t, f, me, held, count)
		}
		if rewritten == 0 {
			t.Fatal("never rewritten")
		}
	}
}

// P25.1: an error of rewriting.
func TestLastGeneration(t *testing.T) {
	f := empty(t)
	copy(f.Bytes[1:], []byte{255, 255, 255, 255})
	f.Bytes[1000] = 0 // it is not clean, and cannot be rewritten
	if l, e := custody.Take(f, 3, reading(3, 1)); e != api.ErrFull || len(l) > 0 {
		t.Errorf("taking: %v", e)
	}
	f.Bytes[1000] = 255
	f = take(t, f, 3, reading(3, 1))
	f.Bytes[1000] = 0
	if l, e := custody.Give(f, 3, 3, 1); e != api.ErrFull || len(l) > 0 {
		t.Errorf("giving: %v", e)
	}
}

// P25.2 (torn writes) and P25.6 (again).
func TestTornWrites(t *testing.T) {
	r := rand.New(rand.NewPCG(25, 2))
	rewritten := 0
	for range 14 {
		f, me := empty(t), 3
		var held []api.Reading
		count := 0
		for range r.IntN(70) {
			x := reading(3, count+1)
			if len(held) < 5 && r.IntN(3) > 0 {
				f = take(t, f, me, x)
				held = append(held, x)
				count++
			} else if len(held) > 0 {
				f = give(t, f, me, held[0].Origin, held[0].Number)
				held = held[1:]
			}
		}
		f = take(t, f, me, reading(9, 9))
		held = append(slices.Clone(held), reading(9, 9))
		x := reading(3, count+1)
		l, e := custody.Take(f, me, x)
		g, e2 := custody.Give(f, me, 9, 9)
		if e != api.OK || e2 != api.OK {
			t.Fatalf("%v %v", e, e2)
		}
		if len(l) > 1000 {
			rewritten++
		}
		for i, m := range l {
			if i < len(l)-1 {
				check(t, m, me, held, count)
				if again, e := custody.Take(m, me, x); i%50 == 0 {
					if e != api.OK {
						t.Fatalf("step %d, again: %v", i, e)
					}
					check(t, last(again), me, append(slices.Clone(held), x), count+1)
				}
			} else {
				check(t, m, me, append(slices.Clone(held), x), count+1)
				if _, e := custody.Take(m, me, x); e != api.ErrTwice {
					t.Fatalf("done, again: %v", e)
				}
			}
		}
		for i, m := range g {
			if i < len(g)-1 {
				check(t, m, me, held, count)
				if i%50 == 0 {
					check(t, give(t, m, me, 9, 9), me, held[:len(held)-1], count)
				}
			} else {
				check(t, m, me, held[:len(held)-1], count)
				if _, e := custody.Give(m, me, 9, 9); e != api.ErrNone {
					t.Fatalf("done, again: %v", e)
				}
			}
		}
	}
	if rewritten == 0 {
		t.Error("never rewritten")
	}
}
