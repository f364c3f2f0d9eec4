package lab_test

import (
	"fmt"
	"math/rand/v2"
	"regexp"
	"slices"
	"strconv"
	"strings"
	"testing"

	"slotmesh/api"
	"slotmesh/lab"
	"slotmesh/mesh"
	"slotmesh/node"
	"slotmesh/parser"
	"slotmesh/printer"
	"slotmesh/random"
	"slotmesh/truth"
)

const head = "mesh data 4 range 150; root r at 0 0; node a at 100 0 slow 20 battery 500000; node b at 200 0 fast 50 battery 500000;\n"

// started is a mesh of three nodes that start.
const started = head + "at 0 start r; at 0 start a; at 3 start b;\n"

// report returns that of a script without errors.
func report(t *testing.T, script string) string {
	t.Helper()
	r, e, n := lab.Run(script)
	if e != api.OK || n != 0 {
		t.Fatalf("%q: %v at %d", script, e, n)
	}
	return r
}

// refused checks the error of a script.
func refused(t *testing.T, script string, want api.Errno, at int) {
	t.Helper()
	if r, e, n := lab.Run(script); r != "" || e != want || n != at {
		t.Errorf("%.200q: %.40q %v at %d, want %v at %d", script, r, e, n, want, at)
	}
}

// The examples of the chapter; P45.8 (declarations).
func TestExamples(t *testing.T) {
	r := report(t, "mesh data 4 range 100; root r at 0 0; node a at 5 5 fast 0 battery 90;")
	if r != "slot 0\nnode r down parent - rank 0 hops 60 runs 0 left 1000000000 waiting 0\nnode a down parent - rank 1000000 hops 60 runs 0 left 90 waiting 0\n" {
		t.Errorf("%s", r)
	}
	refused(t, "root r at 0 0;", api.ErrState, 1)
	refused(t, "mesh data 4 range 100; root r at 0 0; at 5 fail a;", api.ErrName, 3)
	if r := report(t, "mesh data 1 range 0; root zz at 10000 10000;"); r != "slot 0\nnode zz down parent - rank 0 hops 60 runs 0 left 1000000000 waiting 0\n" {
		t.Errorf("%s", r)
	}
	script, want := "mesh data 60 range 20000; root n0 at 0 0;", "slot 0\nnode n0 down parent - rank 0 hops 60 runs 0 left 1000000000 waiting 0\n"
	for i := 1; i < 60; i++ {
		script += fmt.Sprintf("node n%d at %d %d slow 50 battery %d;", i, i, 10000-i, i*7)
		want += fmt.Sprintf("node n%d down parent - rank 1000000 hops 60 runs 0 left %d waiting 0\n", i, i*7)
	}
	if r := report(t, script); r != want {
		t.Errorf("%s", r)
	}
	refused(t, script+"node more at 0 0 fast 0 battery 5;", api.ErrLimit, 62)
	refused(t, script+"node n5 at 0 0 fast 0 battery 5;", api.ErrTwice, 62)
	refused(t, script+"node more at 0 10001 fast 99 battery 5;", api.ErrLimit, 62)
}

// P45.1: errors, in the order of the commands.
func TestErrors(t *testing.T) {
	for _, x := range []struct {
		script string
		e      api.Errno
		at     int
	}{
		{"", api.ErrState, 1}, {"mesh data 4 range 5;", api.ErrState, 2}, {"# nothing", api.ErrState, 1},
		{"run 5; mesh data 4 range 5;", api.ErrState, 1}, {"mesh data 4 range 5; node a at 0 0 fast 0 battery 0;", api.ErrState, 2}, {"mesh data 4 range 5; run 0;", api.ErrState, 2}, {"mesh data 4 range 5; mesh data 4 range 5;", api.ErrState, 2}, {"root r at 0 0; mesh data 0 range 0;", api.ErrState, 1},
		{head + "mesh data 4 range 5;", api.ErrState, 5}, {head + "root s at 0 0;", api.ErrState, 5}, {head + "run 0; node c at 0 0 fast 0 battery 0;", api.ErrState, 6}, {head + "at 0 start a; node c at 0 0 fast 0 battery 0;", api.ErrState, 6}, {head + "run 0; root s at 0 0;", api.ErrState, 6}, {head + "run 0; mesh data 0 range 0;", api.ErrState, 6},
		{"mesh data 0 range 5;", api.ErrRange, 1}, {"mesh data 61 range 5;", api.ErrRange, 1}, {"mesh data 1 range 20001;", api.ErrRange, 1}, {"mesh data 60 range 20000;", api.ErrState, 2}, {"mesh data 1 range 0;", api.ErrState, 2}, {"mesh data 0 range 5; x;", api.ErrSyntax, 0},
		{"mesh data 4 range 5; root r at 10001 0;", api.ErrRange, 2}, {"mesh data 4 range 5; root r at 0 10001;", api.ErrRange, 2}, {head + "node a at 10001 0 fast 51 battery 0;", api.ErrTwice, 5}, {head + "node r at 0 0 fast 0 battery 0;", api.ErrTwice, 5},
		{head + "node c at 10001 0 fast 0 battery 0;", api.ErrRange, 5}, {head + "node c at 0 10001 fast 0 battery 0;", api.ErrRange, 5}, {head + "node c at 0 0 fast 51 battery 0;", api.ErrRange, 5}, {head + "node c at 0 0 slow 51 battery 0;", api.ErrRange, 5},
		{head + "run 4001;", api.ErrLimit, 5}, {head + "run 20; run 3981;", api.ErrLimit, 6}, {head + "run 1000000000;", api.ErrLimit, 5},
		{head + "at 5 fail c;", api.ErrName, 5}, {head + "at 5000 fail c;", api.ErrName, 5}, {head + "run 6; at 5 fail c;", api.ErrName, 6}, {head + "run 6; at 5 fail a;", api.ErrOld, 6}, {head + "at 6 start a; at 5 fail a;", api.ErrOld, 6}, {head + "at 4001 start a;", api.ErrLimit, 5},
		{head + "at 1000000000 jam 0 0 radius 0 channel 16 for 1;", api.ErrLimit, 5}, {head + "at 5 fail a;", api.ErrState, 5}, {started + "at 5 start a;", api.ErrState, 8}, {started + "at 5 read r 4;", api.ErrState, 8}, {head + "at 5 read a 4;", api.ErrState, 5},
		{started + "at 5 move a 10001 0;", api.ErrArg, 8}, {started + "at 5 jam 0 0 radius 5 channel 16 for 1;", api.ErrArg, 8}, {started + "at 5 replay 5 at 0 0;", api.ErrArg, 8}, {started + "at 5 program 1 size 4;", api.ErrOld, 8}, {started + "at 5 program 0 size 4;", api.ErrArg, 8},
		{head + "at 5 program 2 size 4;", api.ErrState, 5}, {started + "at 5 program 2 size 4097;", api.ErrArg, 8}, {started + strings.Repeat("at 9 jam 0 0 radius 5 channel 1 for 9;", 17), api.ErrFull, 24}, {started + strings.Repeat("at 9 replay 5 at 0 0;", 17), api.ErrFull, 24},
		{started + strings.Repeat("at 9 read a 1;", 13), api.ErrFull, 20}, {"run; run 007;", api.ErrSyntax, 0}, {"run 1000000001;", api.ErrRange, 0}, {"abcdefghijklm", api.ErrRange, 0}, {"at 5 fail; x;", api.ErrSyntax, 0}, {strings.Repeat("run 0;", 301), api.ErrLimit, 0}, {strings.Repeat(" ", 8001), api.ErrLimit, 0},
	} {
		refused(t, x.script, x.e, x.at)
	}
	report(t, head+"run 4000; at 4000 start a; run 0;")
	report(t, head+"node c at 10000 10000 slow 50 battery 1000000000;")
}

// model runs commands without errors once more, and returns the report.
func model(t *testing.T, commands []api.Command) string {
	t.Helper()
	var names []string
	var nodes []api.Node
	var places []api.Place
	var powers []int
	i := 1
	for ; i < len(commands) && commands[i].Kind <= api.CmdNode; i++ {
		c := commands[i]
		clock, power := api.Clock{}, 1000000000
		if c.Kind == api.CmdNode {
			clock, power = api.Clock{Offset: random.Below(uint64(i-1), 1000001), Drift: c.N[2]}, c.N[3]
		}
		n, _ := node.New(i-1, clock, power)
		names, nodes, places, powers = append(names, c.Name), append(nodes, n), append(places, api.Place{X: c.N[0], Y: c.N[1]}), append(powers, power)
	}
	m, e := mesh.New(commands[0].N[0], commands[0].N[1], nodes, places)
	var taken []api.Reading
	var versions []int
	for _, c := range commands[i:] {
		until := c.N[0]
		if c.Kind == api.CmdRun {
			until += m.ASN
		}
		for m.ASN < until && e == api.OK {
			m, _, e = mesh.Step(m)
		}
		if c.Kind == api.CmdRun {
			continue
		}
		id := max(0, slices.Index(names, c.Name))
		m, e = mesh.Apply(m, api.Event{Kind: c.Kind, Node: id, N: c.N[1:]})
		if e != api.OK {
			t.Fatalf("%v: %v", c, e)
		}
		if c.Kind == api.CmdRead {
			taken = append(taken, api.Reading{Origin: id, Number: m.Nodes[id].Number, Value: c.N[1], At: c.N[0]})
		}
		if c.Kind == api.CmdProgram {
			versions = append(versions, c.N[1])
		}
	}
	name := func(id int) string {
		if id < 0 || id >= len(names) {
			return "-"
		}
		return names[id]
	}
	var b strings.Builder
	fmt.Fprintf(&b, "slot %d\n", m.ASN)
	for i, n := range m.Nodes {
		is := "stranger"
		if !n.Up {
			is = "down"
		} else if n.Join.Phase == api.JoinIn {
			is = "member"
		}
		fmt.Fprintf(&b, "node %s %s parent %s rank %d hops %d runs %d left %d waiting %d\n", names[i], is, name(n.Route.Parent), n.Route.Own.Rank, n.Time.Hops, n.Runs, n.Ledger.Left, len(n.Queue.List))
	}
	for _, r := range m.Told {
		fmt.Fprintf(&b, "told %s %d %d %d\n", name(r.Origin), r.Number, r.Value, r.At)
	}
	for _, f := range truth.Find(m, taken, versions, powers) {
		fmt.Fprintf(&b, "find %d %d %d %d\n", f.Kind, f.Node, f.Other, f.Third)
	}
	return b.String()
}

// script returns a random script in which nothing is wrong.
func script(r *rand.Rand, slots int) string {
	n := 2 + r.IntN(4)
	s := fmt.Sprintf("mesh data %d range %d;\nroot n0 at 0 0;\n", 2+r.IntN(6), []int{150, 250, 120}[r.IntN(3)])
	for i := 1; i < n; i++ {
		s += fmt.Sprintf("node n%d at %d %d %s %d battery %d;\n", i, 100*i, r.IntN(60), []string{"fast", "slow"}[r.IntN(2)], r.IntN(51), []int{60000, 500000, 1000000}[r.IntN(3)])
	}
	up := make([]bool, n)
	reads := make([]int, n)
	for i := range n {
		s += fmt.Sprintf("at %d start n%d;\n", 2*i, i)
		up[i] = true
	}
	version := 1
	for asn := 2 * n; asn < slots; asn += r.IntN(120) {
		id := 1 + r.IntN(n-1)
		switch k := r.IntN(14); {
		case k < 5 && up[id] && reads[id] < 11:
			s += fmt.Sprintf("at %d read n%d %d;\n", asn, id, r.IntN(1000))
			reads[id]++
		case k == 5 && !up[id]:
			s += fmt.Sprintf("at %d start n%d;\n", asn, id)
			up[id] = true
		case k == 6:
			s += fmt.Sprintf("at %d move n%d %d %d;\n", asn, id, 100*id+r.IntN(20), r.IntN(60))
		case k == 7:
			s += fmt.Sprintf("at %d jam %d 0 radius %d channel %d for %d;\n", asn, r.IntN(400), r.IntN(300), r.IntN(16), 1+r.IntN(90))
		case k == 8:
			s += fmt.Sprintf("at %d replay %d at %d 0;\n", asn, asn-1-r.IntN(20)%asn, r.IntN(300))
		case k == 9 && version < 3:
			version++
			s += fmt.Sprintf("at %d program %d size %d;\n", asn, version, 1+r.IntN(300))
		case k == 10:
			s += fmt.Sprintf("run %d;\n", 0)
		}
	}
	return s + "run 40;\n"
}

// parsed returns the commands of a script.
func parsed(t *testing.T, s string) []api.Command {
	t.Helper()
	c, d := parser.Parse(s)
	if len(d) > 0 {
		t.Fatalf("%q: %v", s, d)
	}
	return c
}

// P45.1, compared with the model; P45.2 (same script), P45.3 (names), P45.6 (no findings) and P45.7 (told).
func TestRun(t *testing.T) {
	r := rand.New(rand.NewPCG(45, 1))
	told, members := 0, 0
	for range 14 {
		s := script(r, 900+r.IntN(500))
		got, e, n := lab.Run(s)
		if e != api.OK { // a node that has no energy left cannot read; the script before is in order
			if want := n - 1; n < 1 || e != api.ErrState {
				t.Fatalf("%s: %v at %d", s, e, want)
			}
			lines := strings.SplitAfter(s, "\n")
			s = strings.Join(lines[:n-1], "")
			got = report(t, s)
		}
		c := parsed(t, s)
		if want := model(t, c); got != want {
			t.Fatalf("%s: %s, want %s", s, got, want)
		}
		canonical, _ := printer.Print(c)
		if x := report(t, strings.ReplaceAll(canonical, " ", " # x\n")); x != got {
			t.Fatalf("%s: another report for the same commands: %s", s, x)
		}
		renamed := regexp.MustCompile(`\bn(\d)\b`)
		if x := report(t, renamed.ReplaceAllString(s, "node_${1}")); x != renamed.ReplaceAllString(got, "node_${1}") {
			t.Fatalf("%s: other names: %s", s, x)
		}
		for _, line := range strings.Split(got, "\n") {
			w := strings.Fields(line)
			if len(w) > 0 && w[0] == "find" && w[1] != strconv.Itoa(api.FindClash) {
				t.Fatalf("%s: %s", s, line)
			}
			if len(w) > 2 && w[2] == "member" {
				members++
			}
			if len(w) > 0 && w[0] == "told" {
				told++
				if !strings.Contains(s, "at "+w[4]+" read "+w[1]+" "+w[3]+";") {
					t.Fatalf("%s: %s", s, line)
				}
			}
		}
	}
	if told < 30 || members < 20 {
		t.Errorf("%d readings are told, %d nodes are members", told, members)
	}
}

// P45.4 (steps).
func TestSteps(t *testing.T) {
	base := started + "at 700 read a 5; at 705 read b 6;"
	whole := report(t, base+"run 300;")
	for _, parts := range []string{"run 100; run 200;", "run 0; run 300;", "run 300; run 0;", "run 1; run 2; run 297; run 0;"} {
		if x := report(t, base+parts); x != whole {
			t.Errorf("%s: %s", parts, x)
		}
	}
	if !strings.Contains(whole, "told a ") || !strings.Contains(whole, "told b ") || !strings.HasPrefix(whole, "slot 1005\n") {
		t.Errorf("%s", whole)
	}
	if x := report(t, base+"at 1005 move b 200 0;"); x != whole {
		t.Errorf("an event: %s", x)
	}
}

// P45.5 (first error).
func TestFirstError(t *testing.T) {
	for _, x := range []struct {
		before, wrong string
		at            int
	}{{head, "at 5 fail c;", 5}, {started, "at 2 fail a;", 8}, {started, "run 4000;", 8}, {head, "root x at 0 0;", 5}, {started, "at 5 start b;", 8}} {
		_, e, _ := lab.Run(x.before + x.wrong)
		for _, after := range []string{"", "run 5;", "mesh data 0 range 0;", "at 0 fail nobody;"} {
			refused(t, x.before+x.wrong+after, e, x.at)
		}
		report(t, x.before)
	}
}

// P2 (theorems): a program is spread where beacons are lost now and then, and all run it.
func TestProgram(t *testing.T) {
	// In a frame of 8 slots, beacons of a are on the channels 5 and 13, and those of b on 10 and 2.
	jams := "at 610 jam 0 0 radius 50 channel 5 for 2500; at 610 jam 100 0 radius 50 channel 10 for 2500;"
	r := report(t, started+"at 600 program 5 size 300;"+jams+"at 3900 read a 1;")
	if strings.Count(r, " member ") != 3 || strings.Count(r, " runs 5 ") != 3 || strings.Contains(r, "find") {
		t.Errorf("%s", r)
	}
}
