package duty_test

import (
	"math"
	"testing"

	"slotmesh/duty"
)

// wanted are the cells that are wanted for 0 to 16 waiting readings.
var wanted = []int{0, 1, 1, 2, 2, 3, 3, 4, 4, 5, 5, 6, 6, 6, 6, 6, 6}

// all calls a function for all numbers of waiting readings and cells that are valid.
func all(f func(waiting, cells int)) {
	for w := range 17 {
		for c := range 25 {
			f(w, c)
		}
	}
}

// P15.1: O1.
func TestNeed(t *testing.T) {
	for _, x := range [][3]int{{5, 1, 2}, {0, 3, 0}, {16, 0, 6}, {3, 2, 0}} {
		if n := duty.Need(x[0], x[1], false); n != x[2] {
			t.Errorf("%v: %d", x, n)
		}
	}
	all(func(w, c int) {
		if n := duty.Need(w, c, false); n != max(0, wanted[w]-c) {
			t.Errorf("Need(%d, %d) = %d", w, c, n)
		}
		if n := duty.Need(w, c, true); n != 0 {
			t.Errorf("Need(%d, %d), full: %d", w, c, n)
		}
	})
}

// P15.1: O2.
func TestSpare(t *testing.T) {
	for _, x := range [][3]int{{5, 1, 0}, {0, 3, 3}, {16, 0, 0}, {3, 2, 0}} {
		if n := duty.Spare(x[0], x[1], 4); n != x[2] {
			t.Errorf("%v: %d", x, n)
		}
	}
	all(func(w, c int) {
		for _, idle := range []int{4, 5, 100, math.MaxInt} {
			if n := duty.Spare(w, c, idle); n != max(0, c-wanted[w]) {
				t.Errorf("Spare(%d, %d, %d) = %d", w, c, idle, n)
			}
		}
		for _, idle := range []int{0, 1, 3, -1, -5, math.MinInt} {
			if n := duty.Spare(w, c, idle); n != 0 {
				t.Errorf("Spare(%d, %d, %d) = %d", w, c, idle, n)
			}
		}
	})
}

// P15.1: numbers that are out of range.
func TestRanges(t *testing.T) {
	for _, n := range []int{-1, math.MinInt, math.MaxInt, 25} {
		if duty.Need(16, n, false) != 0 || duty.Spare(0, n, 9) != 0 {
			t.Errorf("%d cells", n)
		}
	}
	for _, n := range []int{-1, math.MinInt, math.MaxInt, 17, -2} {
		if duty.Need(n, 0, false) != 0 || duty.Spare(n, 24, 9) != 0 {
			t.Errorf("%d waiting", n)
		}
	}
}

// P15.2 (enough) and P15.3 (not both).
func TestEnough(t *testing.T) {
	all(func(w, c int) {
		need, spare := duty.Need(w, c, false), duty.Spare(w, c, 4)
		if need > 0 && spare > 0 {
			t.Errorf("%d waiting, %d cells: %d and %d", w, c, need, spare)
		}
		for _, n := range []int{c + need, c - spare} {
			if n == c+need && need == 0 || n == c-spare && spare == 0 {
				continue
			}
			if n != wanted[w] || duty.Need(w, n, false) != 0 || duty.Spare(w, n, 4) != 0 {
				t.Errorf("%d waiting, %d cells: %d", w, c, n)
			}
		}
	})
}

// P15.4 (more to send) and P15.5 (bounds).
func TestMore(t *testing.T) {
	all(func(w, c int) {
		if w < 16 && (duty.Need(w+1, c, false) < duty.Need(w, c, false) || duty.Spare(w+1, c, 4) > duty.Spare(w, c, 4)) {
			t.Errorf("%d waiting, %d cells", w, c)
		}
		if n := duty.Need(w, c, false); n > 0 && c+n > 6 {
			t.Errorf("%d waiting, %d cells: %d", w, c, n)
		}
		if duty.Spare(w, c, 0) != 0 {
			t.Errorf("%d waiting, %d cells: some are given back", w, c)
		}
	})
}

// P15.6 (drain).
func TestDrain(t *testing.T) {
	for w := range 17 {
		left, cells, last := w, 0, 6
		for range 5 {
			cells = duty.Need(left, 0, false)
			if cells > last {
				t.Errorf("%d waiting: %d cells after %d", w, cells, last)
			}
			last = cells
			left -= min(left, cells)
		}
		if left > 0 {
			t.Errorf("%d waiting: %d are left", w, left)
		}
	}
}
