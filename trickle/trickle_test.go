package trickle_test

import (
	"math"
	"math/rand/v2"
	"testing"

	"slotmesh/api"
	"slotmesh/random"
	"slotmesh/trickle"
)

const last = 1000000000 - 16

// interval is the interval of a length that begins in a frame, by its definition.
func interval(seed, length, frame int) api.Trickle {
	s := uint64(1000003)*uint64(seed) + uint64(frame)
	return api.Trickle{Interval: length, Begin: frame, Fire: frame + length/2 + random.Below(s, length-length/2), Seed: seed}
}

func valid(t api.Trickle) bool {
	length := t.Interval == 1 || t.Interval == 2 || t.Interval == 4 || t.Interval == 8
	return length && t.Begin >= 0 && t.Begin <= last && t.Fire >= t.Begin+t.Interval/2 && t.Fire < t.Begin+t.Interval && t.Count >= 0 && t.Count <= 100 && t.Seed >= 0 && t.Seed <= 1000000000
}

func some(r *rand.Rand) api.Trickle {
	t := interval([]int{0, 5, 1000000000, r.IntN(100)}[r.IntN(4)], 1<<r.IntN(4), []int{0, last, r.IntN(100)}[r.IntN(3)])
	t.Count = []int{0, 1, 2, 99, 100}[r.IntN(5)]
	return t
}

// wrong are timers that are not valid.
func wrong() []api.Trickle {
	good := api.Trickle{Interval: 4, Begin: 10, Fire: 12, Count: 1, Seed: 5}
	var l []api.Trickle
	for _, change := range []func(*api.Trickle){
		func(t *api.Trickle) { t.Interval = 0 }, func(t *api.Trickle) { t.Interval = 3 }, func(t *api.Trickle) { t.Interval = 16; t.Fire = 20 }, func(t *api.Trickle) { t.Interval = -4 }, func(t *api.Trickle) { t.Interval = 6; t.Fire = 14 },
		func(t *api.Trickle) { t.Begin = -1; t.Fire = 2 }, func(t *api.Trickle) { t.Begin = last + 1; t.Fire = last + 4 }, func(t *api.Trickle) { t.Fire = 11 }, func(t *api.Trickle) { t.Fire = 14 }, func(t *api.Trickle) { t.Count = -1 }, func(t *api.Trickle) { t.Count = 101 },
		func(t *api.Trickle) { t.Seed = -1 }, func(t *api.Trickle) { t.Seed = 1000000001 }, func(t *api.Trickle) { t.Begin = math.MaxInt }, func(t *api.Trickle) { t.Fire = math.MinInt }, func(t *api.Trickle) { t.Begin, t.Fire = math.MinInt, math.MinInt },
	} {
		t := good
		change(&t)
		l = append(l, t)
	}
	return append(l, api.Trickle{})
}

// P37.1: AK1.
func TestNew(t *testing.T) {
	if x, e := trickle.New(5, 10); x != (api.Trickle{Interval: 1, Begin: 10, Fire: 10, Seed: 5}) || e != api.OK {
		t.Errorf("%v %v", x, e)
	}
	for _, seed := range []int{0, 1000000000, -1, 1000000001, math.MaxInt, math.MinInt} {
		for _, frame := range []int{0, last, -1, last + 1, math.MaxInt, math.MinInt} {
			x, e := trickle.New(seed, frame)
			ok := seed >= 0 && seed <= 1000000000 && frame >= 0 && frame <= last
			if ok && (e != api.OK || x != interval(seed, 1, frame)) || !ok && (e != api.ErrArg || x != (api.Trickle{})) {
				t.Errorf("New(%d, %d): %v %v", seed, frame, x, e)
			}
		}
	}
}

// P37.1: AK2 to AK4, compared with their definitions; P37.2 (valid).
func TestTimers(t *testing.T) {
	r := rand.New(rand.NewPCG(37, 1))
	for range 20000 {
		x := some(r)
		frame := []int{x.Begin, x.Fire, x.Begin + x.Interval - 1, x.Begin + x.Interval, x.Begin + r.IntN(30), x.Begin - 1, 0, last, last + 1, -1, math.MaxInt, math.MinInt}[r.IntN(12)]
		isFrame := frame >= 0 && frame <= last
		want := x
		if x.Interval > 1 && isFrame {
			want = interval(x.Seed, 1, frame)
		}
		if y := trickle.Reset(x, frame); y != want || !valid(y) {
			t.Fatalf("Reset of %v in %d: %v", x, frame, y)
		}
		want = x
		want.Count = min(100, x.Count+1)
		if y := trickle.Hear(x); y != want {
			t.Fatalf("Hear of %v: %v", x, y)
		}
		want = x
		speaks := false
		if isFrame && frame >= x.Begin {
			if frame >= x.Begin+x.Interval {
				want = interval(x.Seed, min(8, 2*x.Interval), frame)
			}
			speaks = frame == want.Fire && want.Count < 2
		}
		if y, s := trickle.Tick(x, frame); y != want || s != speaks || !valid(y) {
			t.Fatalf("Tick of %v in %d: %v %v, want %v %v", x, frame, y, s, want, speaks)
		}
	}
	for _, x := range wrong() {
		y, speaks := trickle.Tick(x, x.Fire)
		z, speaks2 := trickle.Tick(x, 100)
		if y != x || z != x || speaks || speaks2 || trickle.Hear(x) != x || trickle.Reset(x, 100) != x {
			t.Errorf("%v: %v %v", x, y, speaks)
		}
	}
}

// The examples of the chapter.
func TestExamples(t *testing.T) {
	x, _ := trickle.New(5, 10)
	x, speaks := trickle.Tick(x, 10)
	if !speaks {
		t.Error("in the frame 10")
	}
	x, speaks = trickle.Tick(x, 11)
	if x != (api.Trickle{Interval: 2, Begin: 11, Fire: 12, Seed: 5}) || speaks {
		t.Errorf("in the frame 11: %v %v", x, speaks)
	}
	if _, speaks = trickle.Tick(x, 12); !speaks {
		t.Error("in the frame 12")
	}
	if _, speaks = trickle.Tick(trickle.Hear(x), 12); !speaks {
		t.Error("in the frame 12, after another one")
	}
	if _, speaks = trickle.Tick(trickle.Hear(trickle.Hear(x)), 12); speaks {
		t.Error("in the frame 12, after two others")
	}
	y, _ := trickle.Tick(api.Trickle{Interval: 8, Begin: 20, Fire: 25, Seed: 5}, 28)
	if y.Interval != 8 || y.Begin != 28 || y.Fire < 32 || y.Fire > 35 {
		t.Errorf("in the frame 28: %v", y)
	}
}

// P37.3 (seldom), P37.4 (but again and again) and P37.7 (growth).
func TestRhythm(t *testing.T) {
	for seed := range 200 {
		x, _ := trickle.New(seed, 7)
		var spoken []int
		for frame := 7; frame < 300; frame++ {
			y, speaks := trickle.Tick(x, frame)
			if y.Interval < x.Interval || frame >= 14 && y.Interval != 8 || y.Begin != x.Begin && y.Begin != x.Begin+x.Interval {
				t.Fatalf("seed %d: %v, then %v", seed, x, y)
			}
			if speaks {
				if n := len(spoken); n > 0 && x.Interval == 8 && y.Interval == 8 && spoken[n-1] >= 14 && frame-spoken[n-1] < 4 {
					t.Fatalf("seed %d: in %d and %d", seed, spoken[n-1], frame)
				}
				spoken = append(spoken, frame)
			}
			if n := len(spoken); n == 0 || frame-spoken[n-1] >= 12 {
				t.Fatalf("seed %d: silent up to %d", seed, frame)
			}
			x = y
		}
	}
}

// P37.5 (suppressed) and P37.6 (reset).
func TestSilence(t *testing.T) {
	r := rand.New(rand.NewPCG(37, 2))
	for range 2000 {
		x := interval(r.IntN(100), 1<<r.IntN(4), 50)
		x.Count = r.IntN(3)
		end := x.Begin + x.Interval
		quiet := trickle.Hear(trickle.Hear(x))
		for frame := 50; frame < end; frame++ {
			if y, speaks := trickle.Tick(quiet, frame); speaks || y != quiet {
				t.Fatalf("%v speaks in %d", quiet, frame)
			}
		}
		a, _ := trickle.Tick(quiet, end)
		if b, _ := trickle.Tick(x, end); a != b {
			t.Fatalf("%v: what was heard before matters", x)
		}
		frame := x.Begin + r.IntN(x.Interval)
		x.Count = 0
		y := trickle.Reset(x, frame)
		spoken := false
		for f := frame; f < frame+4; f++ {
			var speaks bool
			y, speaks = trickle.Tick(y, f)
			spoken = spoken || speaks
		}
		if !spoken {
			t.Fatalf("%v, reset in %d: silent", x, frame)
		}
	}
}
