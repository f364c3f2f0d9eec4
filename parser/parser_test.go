package parser_test

import (
	"fmt"
	"math"
	"math/rand/v2"
	"slices"
	"strconv"
	"strings"
	"testing"

	"slotmesh/api"
	"slotmesh/lexer"
	"slotmesh/parser"
)

// texts are the forms of all commands; # is a number, $ a name. Their kinds stand beside them.
var texts = []struct {
	text string
	kind int
}{
	{"mesh data # range # ;", 1}, {"root $ at # # ;", 2}, {"node $ at # # fast # battery # ;", 3}, {"node $ at # # slow # battery # ;", 3},
	{"at # move $ # # ;", 4}, {"at # fail $ ;", 5}, {"at # start $ ;", 6}, {"at # read $ # ;", 7},
	{"at # jam # # radius # channel # for # ;", 8}, {"at # replay # at # # ;", 9}, {"at # program # size # ;", 10}, {"run # ;", 11},
}

const keys = " mesh data range root at node fast slow battery move fail start read jam radius channel for replay program size run "

func fits(word string, x api.Token) bool {
	switch word {
	case "#":
		return x.Kind == api.TokNumber
	case "$":
		return x.Kind == api.TokName && !strings.Contains(keys, " "+x.Text+" ")
	case ";":
		return x.Kind == api.TokPunct
	}
	return x.Kind == api.TokName && x.Text == word
}

// model is a second parser: it keeps all forms that are still possible.
func model(source string) ([]api.Command, []api.Diag) {
	l, e, at := lexer.Lex(source)
	if e != api.OK {
		return nil, []api.Diag{{Err: e, At: at}}
	}
	var commands []api.Command
	var diags []api.Diag
	for i := 0; i < len(l) && len(diags) < 20; {
		c := api.Command{At: l[i].At}
		var words []string
		kind, n := 0, -1
		for {
			done := false
			for _, x := range texts { // the first form that has n + 1 words that fit
				w := strings.Fields(x.text)
				good := true
				for k := 0; k <= n+1 && good; k++ {
					good = k < len(w) && i+k < len(l) && fits(w[k], l[i+k])
				}
				if good {
					n, words, kind, done = n+1, w, x.kind, true
					break
				}
			}
			if !done || n+1 == len(words) {
				break
			}
		}
		if n+1 < len(words) || n < 0 {
			bad := i + n + 1
			at := len(source)
			if bad < len(l) {
				at = l[bad].At
			}
			diags = append(diags, api.Diag{Err: api.ErrSyntax, At: at})
			for i = bad; i < len(l) && l[i].Kind != api.TokPunct; {
				i++
			}
			i++
			continue
		}
		c.Kind = kind
		for k, w := range words {
			switch w {
			case "#":
				n := l[i+k].N
				if words[k-1] == "slow" {
					n = -n
				}
				c.N = append(c.N, n)
			case "$":
				c.Name = l[i+k].Text
			}
		}
		commands = append(commands, c)
		i += len(words)
	}
	if len(diags) == 0 && len(commands) > 300 {
		return nil, []api.Diag{{Err: api.ErrLimit, At: commands[300].At}}
	}
	if len(diags) > 0 {
		return nil, diags
	}
	return commands, nil
}

func compare(t *testing.T, source string) {
	t.Helper()
	c, d := parser.Parse(source)
	wc, wd := model(source)
	if fmt.Sprint(c) != fmt.Sprint(wc) || fmt.Sprint(d) != fmt.Sprint(wd) {
		t.Fatalf("%q: %v %v, want %v %v", source, c, d, wc, wd)
	}
}

var names = []string{"a", "n1", "x_y", "abcdefghijkl", "meshes", "at1", "ru"}

// sentence returns the text of a random command.
func sentence(r *rand.Rand) string {
	w := strings.Fields(texts[r.IntN(len(texts))].text)
	for i := range w {
		switch w[i] {
		case "#":
			w[i] = strconv.Itoa([]int{0, 1, 7, 50, 1000000000}[r.IntN(5)])
		case "$":
			w[i] = names[r.IntN(len(names))]
		}
	}
	return strings.Join(w, " ")
}

// sentences returns a script without errors.
func sentences(r *rand.Rand, n int) string {
	var b strings.Builder
	for range n {
		b.WriteString(sentence(r) + []string{"", " ", "\n", "# note\n"}[r.IntN(4)])
	}
	return b.String()
}

func parse(t *testing.T, source string) []api.Command {
	t.Helper()
	c, d := parser.Parse(source)
	if len(d) > 0 {
		t.Fatalf("%q: %v", source, d)
	}
	return c
}

func same(a, b []api.Command) bool { return fmt.Sprint(a) == fmt.Sprint(b) }

// P2.1: B1 by examples, and compared with the model.
func TestParse(t *testing.T) {
	for _, x := range []struct {
		source string
		want   []api.Command
	}{
		{"", nil},
		{" # nothing", nil},
		{"mesh data 10 range 500; root r at 0 0;", []api.Command{{Kind: api.CmdMesh, N: []int{10, 500}}, {Kind: api.CmdRoot, Name: "r", N: []int{0, 0}, At: 24}}},
		{"node a at 1 2 slow 30 battery 9; at 7 move a 3 4; run 5;", []api.Command{{Kind: api.CmdNode, Name: "a", N: []int{1, 2, -30, 9}}, {Kind: api.CmdMove, Name: "a", N: []int{7, 3, 4}, At: 33}, {Kind: api.CmdRun, N: []int{5}, At: 50}}},
		{"node a at 1 2 fast 30 battery 9;", []api.Command{{Kind: api.CmdNode, Name: "a", N: []int{1, 2, 30, 9}}}},
		{"node a at 1 2 slow 0 battery 9;", []api.Command{{Kind: api.CmdNode, Name: "a", N: []int{1, 2, 0, 9}}}},
		{"node a at 1 2 slow 1000000000 battery 9;", []api.Command{{Kind: api.CmdNode, Name: "a", N: []int{1, 2, -1000000000, 9}}}},
		{"at 5 jam 1 2 radius 300 channel 4 for 50;", []api.Command{{Kind: api.CmdJam, N: []int{5, 1, 2, 300, 4, 50}}}},
		{"at 9 replay 8 at 7 6;at 1 program 2 size 3;", []api.Command{{Kind: api.CmdReplay, N: []int{9, 8, 7, 6}}, {Kind: api.CmdProgram, N: []int{1, 2, 3}, At: 21}}},
		{"at 3 fail a;at 4 start b; at 5 read c 6;", []api.Command{{Kind: api.CmdFail, Name: "a", N: []int{3}}, {Kind: api.CmdStart, Name: "b", N: []int{4}, At: 12}, {Kind: api.CmdRead, Name: "c", N: []int{5, 6}, At: 26}}},
	} {
		if c := parse(t, x.source); !same(c, x.want) {
			t.Errorf("%q: %v", x.source, c)
		}
	}
	r := rand.New(rand.NewPCG(2, 1))
	for range 2000 {
		compare(t, sentences(r, r.IntN(8)))
	}
}

// P2.1: diagnostics, compared with the model.
func TestDiags(t *testing.T) {
	for _, x := range []struct {
		source string
		want   []int
	}{
		{"run; at 5 fail", []int{3, 14}},
		{"run 5 6; run 7;", []int{6}},
		{";", []int{0}},
		{";;run 1;;", []int{0, 1, 8}},
		{"run", []int{3}},
		{"run 5 ", []int{6}},
		{"run 5 # end", []int{11}},
		{"root root at 0 0;", []int{5}},
		{"at 5 move run 1 2;", []int{10}},
		{"at 5 run 1;", []int{5}},
		{"move a 3 4;", []int{0}},
		{"5 run 5; run a;", []int{0, 13}},
		{"node a at 1 2 quick 3 battery 4;", []int{14}},
		{"node a at 1 2 fast slow 3; run x", []int{19, 31}},
		{"run 5 run 6; run 7", []int{6, 18}},
		{"mesh range 1 data 2;", []int{5}},
	} {
		c, d := parser.Parse(x.source)
		var want []api.Diag
		for _, at := range x.want {
			want = append(want, api.Diag{Err: api.ErrSyntax, At: at})
		}
		if !slices.Equal(d, want) || len(c) > 0 {
			t.Errorf("%q: %v %v", x.source, c, d)
		}
	}
	words := strings.Fields(keys + " ; ; ; 5 0 a b9 ; run 5 ; at 6")
	r := rand.New(rand.NewPCG(2, 2))
	for range 3000 {
		w := strings.Fields(sentences(r, r.IntN(5)))
		for range r.IntN(4) {
			if len(w) > 0 {
				i := r.IntN(len(w))
				switch r.IntN(3) {
				case 0:
					w[i] = words[r.IntN(len(words))]
				case 1:
					w = slices.Delete(w, i, i+1)
				default:
					w = slices.Insert(w, i, words[r.IntN(len(words))])
				}
			}
		}
		compare(t, strings.Join(w, " "))
	}
	for range 2000 {
		var w []string
		for range r.IntN(100) {
			w = append(w, words[r.IntN(len(words))])
		}
		compare(t, strings.Join(w, "\n"))
	}
}

// P2.1: limits, and errors of the lexer.
func TestLimits(t *testing.T) {
	run := strings.Repeat("run 5;", 300)
	if c := parse(t, run); len(c) != 300 {
		t.Errorf("%d commands", len(c))
	}
	for _, x := range []struct {
		source string
		want   []api.Diag
	}{
		{run + "run 5;", []api.Diag{{Err: api.ErrLimit, At: 1800}}},
		{run + " run 5;run 6;", []api.Diag{{Err: api.ErrLimit, At: 1801}}},
		{run + "run 5;run;", []api.Diag{{Err: api.ErrSyntax, At: 1809}}},
		{run + "run", []api.Diag{{Err: api.ErrSyntax, At: 1803}}},
		{"run 5; run 007;;", []api.Diag{{Err: api.ErrSyntax, At: 11}}},
		{"; run A", []api.Diag{{Err: api.ErrSyntax, At: 6}}},
		{"; run 1000000001", []api.Diag{{Err: api.ErrRange, At: 6}}},
		{strings.Repeat(" ", 8001), []api.Diag{{Err: api.ErrLimit}}},
		{strings.Repeat("run 5;", 667), []api.Diag{{Err: api.ErrLimit, At: 4001}}},
	} {
		if c, d := parser.Parse(x.source); !slices.Equal(d, x.want) || len(c) > 0 {
			t.Errorf("%.30q: %v", x.source, d)
		}
	}
	for n := 18; n < 23; n++ {
		_, d := parser.Parse(strings.Repeat(";", n) + " run;")
		if want := min(n+1, 20); len(d) != want || d[len(d)-1].At > n+4 {
			t.Errorf("%d semicolons: %v", n, d)
		}
	}
}

// P2.1: B2.
func TestValid(t *testing.T) {
	numbers := []int{2, 2, 4, 3, 1, 1, 2, 6, 4, 3, 1}
	named := []bool{false, true, true, true, true, true, true, false, false, false, false}
	ok := func(want bool, c ...api.Command) {
		t.Helper()
		if parser.Valid(c) != want {
			t.Errorf("%v: not %v", c, want)
		}
	}
	ok(true)
	for i, n := range numbers {
		c := api.Command{Kind: i + 1, N: make([]int, n), At: -5}
		if named[i] {
			ok(false, c)
			c.Name = "a"
		}
		ok(true, c)
		for _, bad := range []string{"", "A", "1", "_a", "a-b", "abcdefghijklm", "a b", "a ", " a", "a#", "run", "battery", "at", "é", "a;", "5a"} {
			x := c
			x.Name = bad
			ok(bad == "" && !named[i], x)
		}
		for _, good := range []string{"abcdefghijkl", "z9_", "runs", "a"} {
			x := c
			x.Name = good
			ok(named[i], x)
		}
		for k := range n {
			for _, v := range []int{0, 1, 1000000000, 1000000001, math.MaxInt, -1, -1000000000, -1000000001, math.MinInt} {
				x := c
				x.N = slices.Clone(c.N)
				x.N[k] = v
				ok(v >= 0 && v <= 1000000000 || i == 2 && k == 2 && v < 0 && v >= -1000000000, x)
			}
		}
		for m := range 8 {
			x := c
			x.N = make([]int, m)
			ok(m == n, x)
			ok(m == n, c, x)
		}
	}
	for _, k := range []int{0, 12, -1, math.MaxInt, math.MinInt} {
		ok(false, api.Command{Kind: k, N: []int{5}})
	}
	for _, w := range strings.Fields(keys) {
		ok(false, api.Command{Kind: api.CmdFail, Name: w, N: []int{1}})
	}
	many := slices.Repeat([]api.Command{{Kind: api.CmdRun, N: []int{5}}}, 301)
	ok(true, many[:300]...)
	ok(false, many...)
}

// P2.1: B3; and no memory is shared.
func TestStrip(t *testing.T) {
	l := []api.Command{{Kind: 3, Name: "a", N: []int{1, 2}, At: 7}, {Kind: -9, Name: "??", At: -1}, {N: []int{5}, At: math.MaxInt}}
	s := parser.Strip(l)
	want := []api.Command{{Kind: 3, Name: "a", N: []int{1, 2}}, {Kind: -9, Name: "??"}, {N: []int{5}}}
	if !same(s, want) || l[0].At != 7 {
		t.Errorf("%v of %v", s, l)
	}
	s[0].N[0], s[2].N[0] = 100, 100
	if l[0].N[0] != 1 || l[2].N[0] != 5 {
		t.Error("the numbers are shared")
	}
	if len(parser.Strip(nil)) != 0 {
		t.Error("of nothing")
	}
}

// P2.2 (commands).
func TestCommands(t *testing.T) {
	r := rand.New(rand.NewPCG(2, 3))
	for range 500 {
		s := sentences(r, r.IntN(10))
		c := parse(t, s)
		if !parser.Valid(c) {
			t.Fatalf("%q: not valid", s)
		}
		last := -1
		for _, x := range c {
			first := []string{"", "mesh", "root", "node", "at", "at", "at", "at", "at", "at", "at", "run"}[x.Kind]
			if x.At <= last || !strings.HasPrefix(s[x.At:], first+" ") {
				t.Fatalf("%q: %v", s, x)
			}
			last = x.At
		}
	}
}

// P2.3 (gaps).
func TestGaps(t *testing.T) {
	r := rand.New(rand.NewPCG(2, 4))
	for range 500 {
		var w []string
		for range 1 + r.IntN(5) {
			w = append(w, strings.Fields(sentence(r))...)
		}
		if r.IntN(2) == 0 {
			w[r.IntN(len(w))] = "x"
		}
		a, b := "", ""
		for _, x := range w {
			a += x + " "
			b += []string{"", "\n", "\t", "# ;\n"}[r.IntN(4)] + x + []string{" ", "\n", "# run 5;\n"}[r.IntN(3)]
		}
		ca, da := parser.Parse(a)
		cb, db := parser.Parse(b)
		if !same(parser.Strip(ca), parser.Strip(cb)) || len(da) != len(db) {
			t.Fatalf("%q and %q: %v %v", a, b, da, db)
		}
	}
}

// P2.4 (texts).
func TestTexts(t *testing.T) {
	r := rand.New(rand.NewPCG(2, 5))
	for range 500 {
		var want []api.Command
		text := ""
		for range r.IntN(8) {
			f := texts[r.IntN(len(texts))]
			c := api.Command{Kind: f.kind}
			w := strings.Fields(f.text)
			for i := range w {
				switch w[i] {
				case "#":
					n := r.IntN(1000000001)
					w[i] = strconv.Itoa(n)
					if w[i-1] == "slow" {
						n = -n
					}
					c.N = append(c.N, n)
				case "$":
					w[i] = names[r.IntN(len(names))]
					c.Name = w[i]
				}
			}
			want = append(want, c)
			text += strings.Join(w, " ")
		}
		if c := parse(t, text); !same(parser.Strip(c), want) || !parser.Valid(want) {
			t.Fatalf("%q: %v", text, c)
		}
	}
}

// P2.5 (joining).
func TestJoining(t *testing.T) {
	r := rand.New(rand.NewPCG(2, 6))
	for range 300 {
		a, b := sentences(r, r.IntN(6)), sentences(r, r.IntN(6))
		want := append(parse(t, a), parse(t, b)...)
		if c := parse(t, a+"\n"+b); !same(parser.Strip(c), parser.Strip(want)) {
			t.Fatalf("%q and %q: %v", a, b, c)
		}
	}
}

// P2.6 (errors).
func TestOneError(t *testing.T) {
	r := rand.New(rand.NewPCG(2, 7))
	for range 500 {
		a, b := sentences(r, r.IntN(5)), sentences(r, r.IntN(5))
		wrong := []string{"run;", ";", "at 5 fail;", "run 5 6;", "mesh data data;", "x;", "7;"}[r.IntN(7)]
		s := a + "\n" + wrong + "\n" + b
		if c, d := parser.Parse(s); len(d) != 1 || d[0].Err != api.ErrSyntax || len(c) > 0 {
			t.Fatalf("%q: %v", s, d)
		}
		_, d := parser.Parse(s + wrong + b + wrong)
		if len(d) != 3 || d[0].At >= d[1].At || d[1].At >= d[2].At {
			t.Fatalf("%q thrice: %v", s, d)
		}
	}
}

// P2.7 (beginnings).
func TestBeginnings(t *testing.T) {
	r := rand.New(rand.NewPCG(2, 8))
	for range 300 {
		s := sentences(r, 1+r.IntN(4))
		l, _, _ := lexer.Lex(s)
		for _, x := range l {
			if x.Kind == api.TokPunct {
				continue
			}
			text := x.Text
			if x.Kind == api.TokNumber {
				text = strconv.Itoa(x.N)
			}
			end := x.At + len(text)
			if _, d := parser.Parse(s[:end]); !slices.Equal(d, []api.Diag{{Err: api.ErrSyntax, At: end}}) {
				t.Fatalf("%q: %v", s[:end], d)
			}
		}
	}
}

// P2.8 (numbers).
func TestNumbers(t *testing.T) {
	r := rand.New(rand.NewPCG(2, 9))
	for range 300 {
		s := sentences(r, 1+r.IntN(4))
		l, _, _ := lexer.Lex(s)
		c := parser.Strip(parse(t, s))
		for _, x := range l {
			if x.Kind != api.TokNumber {
				continue
			}
			other := (x.N + 1 + r.IntN(1000000)) % 1000000001
			changed := parser.Strip(parse(t, s[:x.At]+strconv.Itoa(other)+s[x.At+len(strconv.Itoa(x.N)):]))
			differ := 0
			for i := range c {
				if changed[i].Kind != c[i].Kind || changed[i].Name != c[i].Name || len(changed[i].N) != len(c[i].N) {
					t.Fatalf("%q: %v", s, changed)
				}
				for k, n := range c[i].N {
					if m := changed[i].N[k]; m != n {
						differ++
						if max(m, -m) != other || max(n, -n) != x.N {
							t.Fatalf("%q: %d became %d", s, n, m)
						}
					}
				}
			}
			if differ != 1 || len(changed) != len(c) {
				t.Fatalf("%q: %d numbers differ", s, differ)
			}
		}
	}
}
