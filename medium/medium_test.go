package medium_test

import (
	"math"
	"math/rand/v2"
	"slices"
	"testing"

	"slotmesh/api"
	"slotmesh/medium"
)

const (
	sleep  = api.RadioSleep
	listen = api.RadioListen
	send   = api.RadioSend
)

func at(x, y int) api.Place { return api.Place{X: x, Y: y} }

func near(a, b api.Place, radius int) bool {
	return (a.X-b.X)*(a.X-b.X)+(a.Y-b.Y)*(a.Y-b.Y) <= radius*radius
}

// scene is what happens in a slot.
type scene struct {
	actions []api.Action
	places  []api.Place
	radius  int
	jams    []api.Jam
	asn     int
}

func (s scene) catch(t *testing.T) []int {
	t.Helper()
	c, e := medium.Catch(s.actions, s.places, s.radius, s.jams, s.asn)
	if e != api.OK || len(c) != len(s.actions) {
		t.Fatalf("%v: %v %v", s, c, e)
	}
	return c
}

func (s scene) hears(i, k int) bool {
	return s.actions[i].Do == listen && s.actions[k].Do == send && s.actions[i].Channel == s.actions[k].Channel && near(s.places[i], s.places[k], s.radius)
}

func (s scene) jammed(i int) bool {
	for _, j := range s.jams {
		if j.Channel == s.actions[i].Channel && s.asn < j.Until && near(j.Place, s.places[i], j.Radius) {
			return true
		}
	}
	return false
}

// model is what each radio catches, by the definition.
func (s scene) model() []int {
	var out []int
	for i, a := range s.actions {
		var heard []int
		for k := range s.actions {
			if s.hears(i, k) {
				heard = append(heard, k)
			}
		}
		x := -1
		switch {
		case a.Do != listen:
		case s.jammed(i) || len(heard) > 1:
			x = -2
		case len(heard) == 1 && s.actions[heard[0]].Start >= a.Open.Low && s.actions[heard[0]].Start <= a.Open.High:
			x = heard[0]
		}
		out = append(out, x)
	}
	return out
}

func action(r *rand.Rand) api.Action {
	return api.Action{Do: r.IntN(3), Channel: r.IntN(3), Start: r.IntN(21) - 10, Open: api.Range{Low: -r.IntN(12), High: r.IntN(12)}}
}

func jam(r *rand.Rand) api.Jam {
	return api.Jam{Place: at(r.IntN(20), r.IntN(20)), Radius: r.IntN(8), Channel: r.IntN(3), Until: r.IntN(10)}
}

func some(r *rand.Rand) scene {
	s := scene{radius: r.IntN(20), asn: r.IntN(10)}
	for range r.IntN(8) {
		s.actions = append(s.actions, action(r))
		s.places = append(s.places, at(r.IntN(20), r.IntN(20)))
	}
	for range r.IntN(3) {
		s.jams = append(s.jams, jam(r))
	}
	return s
}

// The examples of the chapter.
func TestExamples(t *testing.T) {
	places := []api.Place{at(0, 0), at(3, 4), at(6, 8)}
	do := func(kinds ...int) []api.Action {
		var l []api.Action
		for _, k := range kinds {
			l = append(l, api.Action{Do: k, Channel: 2, Open: api.Range{Low: -9, High: 9}})
		}
		return l
	}
	late := do(send, listen, sleep)
	late[0].Start = 10
	for _, x := range []struct {
		actions []api.Action
		jams    []api.Jam
		want    []int
	}{
		{do(send, listen, listen), nil, []int{-1, 0, -1}},
		{do(send, listen, send), nil, []int{-1, -2, -1}},
		{late, nil, []int{-1, -1, -1}},
		{do(send, listen, listen), []api.Jam{{Place: at(6, 8), Radius: 5, Channel: 2, Until: 5}}, []int{-1, -2, -2}},
	} {
		if c := (scene{x.actions, places, 5, x.jams, 4}).catch(t); !slices.Equal(c, x.want) {
			t.Errorf("%v: %v", x.actions, c)
		}
	}
}

// P17.1, compared with the definition; P17.2 (caught).
func TestCatch(t *testing.T) {
	r := rand.New(rand.NewPCG(17, 1))
	caught, noise := 0, 0
	for range 8000 {
		s := some(r)
		c := s.catch(t)
		if !slices.Equal(c, s.model()) {
			t.Fatalf("%v: %v, want %v", s, c, s.model())
		}
		for i, k := range c {
			if k >= 0 {
				caught++
				if !s.hears(i, k) || s.jammed(i) {
					t.Fatalf("%v: %d catches %d", s, i, k)
				}
			}
			if k == -2 {
				noise++
			}
		}
	}
	if caught < 500 || noise < 200 {
		t.Errorf("only %d are caught, %d times noise", caught, noise)
	}
}

// P17.1: what is not valid.
func TestErrors(t *testing.T) {
	good := scene{actions: make([]api.Action, 2), places: make([]api.Place, 2), radius: 5, asn: 3}
	good.catch(t)
	wild := []int{-1, math.MinInt, math.MaxInt}
	refused := func(s scene) {
		t.Helper()
		if c, e := medium.Catch(s.actions, s.places, s.radius, s.jams, s.asn); e != api.ErrArg || len(c) > 0 {
			t.Errorf("%.200v: %v %v", s, c, e)
		}
	}
	for _, n := range append(wild, 20001) {
		s := good
		s.radius = n
		refused(s)
		s.actions, s.places = nil, nil
		refused(s)
	}
	for _, n := range append(wild, 1000000001) {
		s := good
		s.asn = n
		refused(s)
	}
	for _, n := range append(wild, 10001) {
		for _, p := range []api.Place{at(n, 0), at(0, n)} {
			for i := range 2 {
				s := good
				s.places = slices.Clone(good.places)
				s.places[i] = p
				refused(s)
			}
		}
	}
	for _, n := range append(wild, 3) {
		s := good
		s.actions = []api.Action{{}, {Do: n}}
		refused(s)
	}
	for _, n := range append(wild, 16) {
		for do := range 3 {
			s := good
			s.actions = []api.Action{{}, {Do: do, Channel: n}}
			if do == sleep {
				s.catch(t)
			} else {
				refused(s)
			}
		}
	}
	s := good
	s.places = s.places[:1]
	refused(s)
	s.places = nil
	refused(s)
	s.actions, s.places = make([]api.Action, 200), make([]api.Place, 200)
	s.radius, s.asn = 20000, 1000000000
	s.actions[3] = api.Action{Do: send, Channel: 15, Start: math.MinInt}
	s.actions[199] = api.Action{Do: listen, Channel: 15, Open: api.Range{Low: math.MinInt, High: math.MinInt}}
	s.jams = []api.Jam{{Place: at(-1, -1), Channel: 15, Until: math.MaxInt, Radius: math.MaxInt}}
	if c := s.catch(t); c[199] != 3 {
		t.Errorf("200 radios: %v", c)
	}
	s.actions, s.places = make([]api.Action, 201), make([]api.Place, 201)
	refused(s)
	scene{}.catch(t)
}

// P17.3 (alone).
func TestAlone(t *testing.T) {
	r := rand.New(rand.NewPCG(17, 2))
	for range 2000 {
		s := some(r)
		if len(s.actions) == 0 {
			continue
		}
		s.jams = nil
		k := r.IntN(len(s.actions))
		for i := range s.actions {
			if s.actions[i].Do == send {
				s.actions[i].Do = sleep
			}
		}
		s.actions[k].Do = send
		for i, x := range s.catch(t) {
			a := s.actions[i]
			good := s.hears(i, k) && a.Open.Low <= s.actions[k].Start && s.actions[k].Start <= a.Open.High
			if good != (x == k) || !good && x != -1 {
				t.Fatalf("%v: %d catches %d", s, i, x)
			}
		}
	}
}

// P17.4 (more senders).
func TestMoreSenders(t *testing.T) {
	r := rand.New(rand.NewPCG(17, 3))
	for range 3000 {
		s := some(r)
		before := s.catch(t)
		more := s
		a := action(r)
		a.Do = send
		k := len(s.actions)
		more.actions = append(slices.Clone(s.actions), a)
		more.places = append(slices.Clone(s.places), at(r.IntN(20), r.IntN(20)))
		for i, x := range more.catch(t)[:k] {
			heard := false
			for other := range k {
				heard = heard || s.hears(i, other)
			}
			switch {
			case !more.hears(i, k) && x != before[i], more.hears(i, k) && x >= 0 && x != k, more.hears(i, k) && heard && x >= 0:
				t.Fatalf("%v and %v: %d catches %d", s, a, i, x)
			}
		}
	}
}

// P17.5 (channels) and P17.8 (listeners).
func TestChannels(t *testing.T) {
	r := rand.New(rand.NewPCG(17, 4))
	for range 3000 {
		s := some(r)
		before := s.catch(t)
		other, quiet := s, s
		other.actions, quiet.actions = slices.Clone(s.actions), slices.Clone(s.actions)
		for i, a := range s.actions {
			if a.Channel == 1 {
				other.actions[i] = api.Action{Do: r.IntN(3), Channel: []int{1, 9}[r.IntN(2)]}
			}
			if a.Do != send && i > 0 {
				quiet.actions[i].Do = r.IntN(2)
			}
		}
		changed, listened := other.catch(t), quiet.catch(t)
		for i, a := range s.actions {
			if a.Channel != 1 && changed[i] != before[i] {
				t.Fatalf("%v and %v: %d", s, other, i)
			}
			if a.Do == quiet.actions[i].Do && listened[i] != before[i] {
				t.Fatalf("%v and %v: %d", s, quiet, i)
			}
		}
	}
}

// P17.6 (jammers) and P17.7 (order).
func TestJammersAndOrder(t *testing.T) {
	r := rand.New(rand.NewPCG(17, 5))
	for range 3000 {
		s := some(r)
		before := s.catch(t)
		more, alone := s, s
		j := jam(r)
		more.jams = append(slices.Clone(s.jams), j)
		alone.jams = []api.Jam{j}
		for i, x := range more.catch(t) {
			if !alone.jammed(i) && x != before[i] || alone.jammed(i) && x >= 0 {
				t.Fatalf("%v and %v: %d catches %d", s, j, i, x)
			}
		}
		order := r.Perm(len(s.actions))
		mixed := s
		mixed.actions, mixed.places = make([]api.Action, len(order)), make([]api.Place, len(order))
		for i, k := range order {
			mixed.actions[k], mixed.places[k] = s.actions[i], s.places[i]
		}
		got := mixed.catch(t)
		for i, k := range order {
			want := before[i]
			if want >= 0 {
				want = order[want]
			}
			if got[k] != want {
				t.Fatalf("%v in the order %v: %v", s, order, got)
			}
		}
	}
}
