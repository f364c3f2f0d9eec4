package printer_test

import (
	"fmt"
	"math/rand/v2"
	"slices"
	"strconv"
	"strings"
	"testing"

	"slotmesh/api"
	"slotmesh/lexer"
	"slotmesh/parser"
	"slotmesh/printer"
)

var counts = []int{2, 2, 4, 3, 1, 1, 2, 6, 4, 3, 1}

// command returns a random valid command of a kind.
func command(r *rand.Rand, kind int) api.Command {
	c := api.Command{Kind: kind}
	if kind >= api.CmdRoot && kind <= api.CmdRead {
		c.Name = []string{"a", "abcdefghijkl", "z_9", "node1"}[r.IntN(4)]
	}
	for range counts[kind-1] {
		c.N = append(c.N, []int{0, 9, 10, 1000000000, r.IntN(100000)}[r.IntN(5)])
	}
	if kind == api.CmdNode && r.IntN(2) == 0 {
		c.N[2] = -c.N[2]
	}
	return c
}

func commands(r *rand.Rand, n int) []api.Command {
	var l []api.Command
	for range n {
		l = append(l, command(r, 1+r.IntN(11)))
	}
	return l
}

// line is the line of a command, written in another way than by the printer.
func line(c api.Command) string {
	n := func(i int) string { return strconv.Itoa(c.N[i]) }
	switch c.Kind {
	case api.CmdMesh:
		return "mesh data " + n(0) + " range " + n(1) + ";\n"
	case api.CmdRoot:
		return "root " + c.Name + " at " + n(0) + " " + n(1) + ";\n"
	case api.CmdNode:
		drift := " fast " + n(2)
		if c.N[2] < 0 {
			drift = " slow " + n(2)[1:]
		}
		return "node " + c.Name + " at " + n(0) + " " + n(1) + drift + " battery " + n(3) + ";\n"
	case api.CmdMove:
		return "at " + n(0) + " move " + c.Name + " " + n(1) + " " + n(2) + ";\n"
	case api.CmdFail:
		return "at " + n(0) + " fail " + c.Name + ";\n"
	case api.CmdStart:
		return "at " + n(0) + " start " + c.Name + ";\n"
	case api.CmdRead:
		return "at " + n(0) + " read " + c.Name + " " + n(1) + ";\n"
	case api.CmdJam:
		return "at " + n(0) + " jam " + n(1) + " " + n(2) + " radius " + n(3) + " channel " + n(4) + " for " + n(5) + ";\n"
	case api.CmdReplay:
		return "at " + n(0) + " replay " + n(1) + " at " + n(2) + " " + n(3) + ";\n"
	case api.CmdProgram:
		return "at " + n(0) + " program " + n(1) + " size " + n(2) + ";\n"
	}
	return "run " + n(0) + ";\n"
}

func text(t *testing.T, l []api.Command) string {
	t.Helper()
	s, e := printer.Print(l)
	if e != api.OK {
		t.Fatalf("%v: %v", l, e)
	}
	return s
}

func same(a, b []api.Command) bool { return fmt.Sprint(a) == fmt.Sprint(b) }

// P3.1.
func TestPrint(t *testing.T) {
	for _, x := range []struct {
		c    api.Command
		want string
	}{
		{api.Command{Kind: api.CmdNode, Name: "a", N: []int{1, 2, -30, 9}}, "node a at 1 2 slow 30 battery 9;\n"},
		{api.Command{Kind: api.CmdNode, Name: "a", N: []int{1, 2, 30, 9}}, "node a at 1 2 fast 30 battery 9;\n"},
		{api.Command{Kind: api.CmdNode, Name: "a", N: []int{1, 2, 0, 9}}, "node a at 1 2 fast 0 battery 9;\n"},
		{api.Command{Kind: api.CmdNode, Name: "a", N: []int{1, 2, -1000000000, 9}}, "node a at 1 2 slow 1000000000 battery 9;\n"},
		{api.Command{Kind: api.CmdFail, Name: "a", N: []int{7}}, "at 7 fail a;\n"},
		{api.Command{Kind: api.CmdJam, N: []int{5, 1, 2, 300, 4, 50}}, "at 5 jam 1 2 radius 300 channel 4 for 50;\n"},
		{api.Command{Kind: api.CmdRun, N: []int{1000000000}, At: 99}, "run 1000000000;\n"},
	} {
		if s := text(t, []api.Command{x.c}); s != x.want {
			t.Errorf("%v: %q", x.c, s)
		}
	}
	if s, e := printer.Print(nil); s != "" || e != api.OK {
		t.Errorf("nothing: %q %v", s, e)
	}
	r := rand.New(rand.NewPCG(3, 1))
	for range 1000 {
		l := commands(r, r.IntN(20))
		want := ""
		for _, c := range l {
			want += line(c)
		}
		if s := text(t, l); s != want {
			t.Fatalf("%v: %q", l, s)
		}
	}
}

// P3.1: errors.
func TestErrors(t *testing.T) {
	r := rand.New(rand.NewPCG(3, 2))
	refused := func(want api.Errno, l ...api.Command) {
		t.Helper()
		if s, e := printer.Print(l); e != want || s != "" {
			t.Errorf("%d commands: %.80q %v, want %v", len(l), s, e, want)
		}
	}
	for _, bad := range []api.Command{
		{}, {Kind: 12, N: []int{1}}, {Kind: -1}, {Kind: api.CmdRun}, {Kind: api.CmdRun, N: []int{1, 2}}, {Kind: api.CmdRun, N: []int{-1}}, {Kind: api.CmdRun, N: []int{1000000001}},
		{Kind: api.CmdRun, N: []int{1}, Name: "a"}, {Kind: api.CmdFail, N: []int{1}}, {Kind: api.CmdFail, N: []int{1}, Name: "run"}, {Kind: api.CmdFail, N: []int{1}, Name: "A"}, {Kind: api.CmdFail, N: []int{1}, Name: "a b"},
	} {
		refused(api.ErrArg, bad)
		refused(api.ErrArg, command(r, 1), bad, command(r, 2))
	}
	run := api.Command{Kind: api.CmdRun, N: []int{1}}
	refused(api.ErrArg, slices.Repeat([]api.Command{run}, 301)...)
	text(t, slices.Repeat([]api.Command{run}, 300))
	start := api.Command{Kind: api.CmdStart, Name: "a", N: []int{1}} // 5 tokens
	jam := api.Command{Kind: api.CmdJam, N: []int{0, 0, 0, 0, 0, 0}} // 12 tokens
	tokens := slices.Repeat([]api.Command{jam}, 165)                 // 1980 tokens
	text(t, append(slices.Clone(tokens), start, start, start, start))
	refused(api.ErrLimit, append(slices.Clone(tokens), start, start, start, start, run)...)
	long := api.Command{Kind: api.CmdRoot, Name: "abcdefghijkl", N: []int{1000000000, 1000000000}} // 44 bytes
	bytes := slices.Repeat([]api.Command{long}, 181)                                               // 7964 bytes
	fill := []api.Command{{Kind: api.CmdFail, Name: "abc", N: []int{100}}, {Kind: api.CmdRun, N: []int{1000000000}}}
	l := append(slices.Clone(bytes), fill...)
	if n := len(text(t, l)); n != 7997 {
		t.Errorf("%d bytes", n)
	}
	l[181].N[0] = 100000
	if n := len(text(t, l)); n != 8000 {
		t.Errorf("%d bytes", n)
	}
	l[181].N[0] = 1000000
	refused(api.ErrLimit, l...)
}

// P3.2 (inverse) and P3.5 (lines).
func TestInverse(t *testing.T) {
	r := rand.New(rand.NewPCG(3, 3))
	for range 500 {
		l := commands(r, r.IntN(20))
		s := text(t, l)
		c, d := parser.Parse(s)
		if len(d) > 0 || !same(parser.Strip(c), l) {
			t.Fatalf("%q: %v %v", s, c, d)
		}
		if strings.Count(s, "\n") != len(l) {
			t.Fatalf("%q: lines", s)
		}
		at := 0
		for i, part := range strings.SplitAfter(s, "\n")[:len(l)] {
			if c[i].At != at {
				t.Fatalf("%q: the command %d begins at %d", s, i, c[i].At)
			}
			at += len(part)
		}
	}
}

// P3.3 (canonical).
func TestCanonical(t *testing.T) {
	a := "node  a at 1\t2 slow 0 battery 9 ;# x\nrun\n7;"
	b := "node a at 1 2 slow 0 battery 9;run 7;"
	ca, _ := parser.Parse(a)
	cb, _ := parser.Parse(b)
	if text(t, ca) != text(t, cb) || text(t, ca) != "node a at 1 2 fast 0 battery 9;\nrun 7;\n" {
		t.Errorf("%q and %q", text(t, ca), text(t, cb))
	}
	r := rand.New(rand.NewPCG(3, 4))
	for range 300 {
		s := text(t, commands(r, r.IntN(15)))
		c, _ := parser.Parse(strings.ReplaceAll(strings.ReplaceAll(s, " ", " # run\n\t"), ";\n", "\n; "))
		if again := text(t, c); again != s {
			t.Fatalf("%q became %q", s, again)
		}
	}
}

// P3.4 (joining), P3.6 (differences) and P3.7 (parts).
func TestParts(t *testing.T) {
	r := rand.New(rand.NewPCG(3, 5))
	for range 500 {
		a, b := commands(r, r.IntN(10)), commands(r, r.IntN(10))
		if text(t, append(slices.Clone(a), b...)) != text(t, a)+text(t, b) {
			t.Fatalf("%v and %v", a, b)
		}
		if (text(t, a) == text(t, b)) != same(a, b) {
			t.Fatalf("%v and %v: the same text", a, b)
		}
		for _, c := range a {
			l, _, _ := lexer.Lex(text(t, []api.Command{c}))
			if len(l) > 12 || len(l) < 3 {
				t.Fatalf("%v has %d tokens", c, len(l))
			}
			x := c
			x.N = slices.Clone(c.N)
			if k := r.IntN(len(x.N)); x.N[k] == 1000000000 {
				x.N[k]--
			} else {
				x.N[k]++
			}
			if text(t, []api.Command{c}) == text(t, []api.Command{x}) {
				t.Fatalf("%v and %v: the same text", c, x)
			}
		}
	}
	long := slices.Repeat([]api.Command{{Kind: api.CmdRoot, Name: "abcdefghijkl", N: []int{1000000000, 1000000000}}}, 181)
	for i := 0; i <= 181; i += 60 {
		text(t, long[:i])
		text(t, long[i:])
	}
}
