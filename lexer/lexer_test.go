package lexer_test

import (
	"math/rand/v2"
	"regexp"
	"slices"
	"strconv"
	"strings"
	"testing"

	"slotmesh/api"
	"slotmesh/lexer"
)

// model is a second lexer, by regular expressions, with which the first one is compared.
func model(source string) ([]api.Token, api.Errno, int) {
	if len(source) > 8000 {
		return nil, api.ErrLimit, 0
	}
	part := regexp.MustCompile(`^(?:([ \t\n]|#[^\n]*)|([a-z][a-z0-9_]*)|([0-9]+)|(;))`)
	var tokens []api.Token
	for at := 0; at < len(source); {
		m := part.FindStringSubmatch(source[at:])
		if m == nil {
			return nil, api.ErrSyntax, at
		}
		if m[1] == "" {
			if len(tokens) == 2000 {
				return nil, api.ErrLimit, at
			}
			switch {
			case m[2] != "":
				if len(m[2]) > 12 {
					return nil, api.ErrRange, at
				}
				tokens = append(tokens, api.Token{Kind: 1, Text: m[2], At: at})
			case m[3] != "":
				if m[3] != "0" && m[3][0] == '0' {
					return nil, api.ErrSyntax, at
				}
				n, err := strconv.ParseUint(m[3], 10, 64)
				if err != nil || n > 1000000000 {
					return nil, api.ErrRange, at
				}
				tokens = append(tokens, api.Token{Kind: 2, N: int(n), At: at})
			default:
				tokens = append(tokens, api.Token{Kind: 3, Text: ";", At: at})
			}
		}
		at += len(m[0])
	}
	return tokens, api.OK, 0
}

// compare reports where Lex and the model differ for a script.
func compare(t *testing.T, source string) {
	t.Helper()
	l, e, at := lexer.Lex(source)
	wl, we, wat := model(source)
	if !slices.Equal(l, wl) || e != we || at != wat {
		t.Errorf("%.60q: %v %v %d, want %v %v %d", source, l, e, at, wl, we, wat)
	}
}

var parts = []string{"at", "n1", "a_b_", "abcdefghijkl", "0", "7", "70", "1000000000", "999999999", ";", ";", " ", "\t", "\n", "# note\n", "#;a 5\n", "#\n"}
var wrongs = []string{"007", "00", "1000000001", "99999999999999999999", "abcdefghijklm", "_", "A", "-5", "\r", "é", "\x00", "\xff", ",", "00000000000000000001"}

// script returns a script of n random parts; if wrong is true, it can have errors.
func script(r *rand.Rand, n int, wrong bool) string {
	var b strings.Builder
	for range n {
		if wrong && r.IntN(30) == 0 {
			b.WriteString(wrongs[r.IntN(len(wrongs))])
		}
		b.WriteString(parts[r.IntN(len(parts))])
		if !wrong { // digits that follow a number or a name could make it too long
			b.WriteString(" ")
		}
	}
	return b.String()
}

// bare returns tokens without their offsets.
func bare(l []api.Token) []api.Token {
	l = slices.Clone(l)
	for i := range l {
		l[i].At = 0
	}
	return l
}

// lex returns the tokens of a script that has no error.
func lex(t *testing.T, source string) []api.Token {
	t.Helper()
	l, e, at := lexer.Lex(source)
	if e != api.OK || at != 0 {
		t.Fatalf("%.60q: %v at %d", source, e, at)
	}
	return l
}

// P1.1.
func TestTokens(t *testing.T) {
	for _, s := range []string{"", " ", "\t\n ", "#", "# only a comment", "#\n#\n;", "at 70 read n1 5;", "12ab;# x", "a_1b;;0", "a#b;\nc", "a1b2_ 0 00a", "0a", "a;b;c", "mesh data 10 range 500;", "a\n#x\n\n#y", "z_9", "9z"} {
		compare(t, s)
	}
	name, number := "abcdefghijkl", "1000000000"
	want := []api.Token{{Kind: api.TokName, Text: name}, {Kind: api.TokNumber, N: 1000000000, At: 13}, {Kind: api.TokPunct, Text: ";", At: 23}}
	if l := lex(t, name+" "+number+";"); !slices.Equal(l, want) {
		t.Errorf("longest tokens: %v", l)
	}
	for c := range 256 { // each byte alone, at the beginning and inside of names and numbers
		for _, s := range []string{string([]byte{byte(c)}), "a" + string([]byte{byte(c)}), "1" + string([]byte{byte(c)}), string([]byte{byte(c)}) + "b", "#" + string([]byte{byte(c)}) + "A"} {
			compare(t, s)
		}
	}
	r := rand.New(rand.NewPCG(1, 1))
	for range 3000 {
		compare(t, script(r, r.IntN(40), true))
	}
}

// P1.1: errors and limits.
func TestErrors(t *testing.T) {
	many := strings.Repeat(";", 2000)
	for _, x := range []struct {
		s  string
		e  api.Errno
		at int
	}{
		{"run 007", api.ErrSyntax, 4},
		{"run 1000000001", api.ErrRange, 4},
		{"mesh, ", api.ErrSyntax, 4},
		{"00", api.ErrSyntax, 0},
		{"0000000000000000000000", api.ErrSyntax, 0},
		{"18446744073709551616", api.ErrRange, 0},
		{"18446744073709551617", api.ErrRange, 0},
		{"9223372036854775808", api.ErrRange, 0},
		{"4294967297", api.ErrRange, 0},
		{"abcdefghijklm", api.ErrRange, 0},
		{" ;abcdefghijkl_", api.ErrRange, 2},
		{"a _b", api.ErrSyntax, 2},
		{"a\rb", api.ErrSyntax, 1},
		{"a \xc3\xa9", api.ErrSyntax, 2},
		{"a\x00", api.ErrSyntax, 1},
		{many + ";", api.ErrLimit, 2000},
		{many + "abcdefghijklmn", api.ErrLimit, 2000},
		{many + " 007", api.ErrLimit, 2001},
		{many + "\n1000000001", api.ErrLimit, 2001},
		{many + "A", api.ErrSyntax, 2000},
		{many[1:] + "007", api.ErrSyntax, 1999},
		{strings.Repeat(" ", 8001), api.ErrLimit, 0},
		{"A" + strings.Repeat(" ", 8000), api.ErrLimit, 0},
		{many + ";" + strings.Repeat(" ", 6000), api.ErrLimit, 0},
		{"A" + strings.Repeat(" ", 7999), api.ErrSyntax, 0},
	} {
		if l, e, at := lexer.Lex(x.s); len(l) > 0 || e != x.e || at != x.at {
			t.Errorf("%.20q: %d tokens, %v at %d, want %v at %d", x.s, len(l), e, at, x.e, x.at)
		}
	}
	for _, s := range []string{many, many + " # A 007", many + "\n", strings.Repeat(" ", 8000), "#" + strings.Repeat("A", 7999)} {
		lex(t, s)
	}
	if n := len(lex(t, many)); n != 2000 {
		t.Errorf("%d tokens", n)
	}
}

// P1.2 (offsets).
func TestOffsets(t *testing.T) {
	r := rand.New(rand.NewPCG(2, 1))
	gap := regexp.MustCompile(`^([ \t\n]|#[^\n]*(\n|$))*$`)
	for range 500 {
		s := script(r, r.IntN(60), false)
		end := 0
		for _, x := range lex(t, s) {
			text := x.Text
			if x.Kind == api.TokNumber {
				text = strconv.Itoa(x.N)
			}
			if x.At < end || !strings.HasPrefix(s[x.At:], text) || !gap.MatchString(s[end:x.At]) {
				t.Fatalf("%q: %v", s, x)
			}
			end = x.At + len(text)
		}
		if !gap.MatchString(s[end:]) {
			t.Fatalf("%q: ends with %q", s, s[end:])
		}
	}
}

// P1.3 (gaps).
func TestGaps(t *testing.T) {
	r := rand.New(rand.NewPCG(3, 1))
	gaps := []string{" ", "\t", "\n", "# a 007 A é\n", "#\n", " \n\t # ;\n "}
	for range 500 {
		s := script(r, r.IntN(40), false)
		l := lex(t, s)
		at := len(s)
		if len(l) > 0 && r.IntN(4) > 0 {
			at = l[r.IntN(len(l))].At
		}
		g := gaps[r.IntN(len(gaps))]
		more := lex(t, s[:at]+g+s[at:])
		if !slices.Equal(bare(more), bare(l)) {
			t.Fatalf("%q with %q at %d: %v", s, g, at, more)
		}
		for i, x := range l {
			if x.At >= at {
				x.At += len(g)
			}
			if more[i].At != x.At {
				t.Fatalf("%q with %q at %d: the offset %d", s, g, at, more[i].At)
			}
		}
	}
	if l := lex(t, "a # to the end"); len(l) != 1 {
		t.Errorf("comment at the end: %v", l)
	}
}

// P1.4 (two scripts).
func TestTwoScripts(t *testing.T) {
	r := rand.New(rand.NewPCG(4, 1))
	for range 500 {
		a, b := script(r, r.IntN(30), false), script(r, r.IntN(30), false)
		if r.IntN(3) == 0 {
			a += "# a comment without an end"
		}
		want := append(bare(lex(t, a)), bare(lex(t, b))...)
		if got := bare(lex(t, a+"\n"+b)); !slices.Equal(got, want) {
			t.Fatalf("%q and %q: %v", a, b, got)
		}
	}
	half := strings.Repeat("a;", 500)
	if n := len(lex(t, half+"\n"+half)); n != 2000 {
		t.Errorf("%d tokens", n)
	}
	if _, e, at := lexer.Lex(half + "\n" + half + "0"); e != api.ErrLimit || at != 2001 {
		t.Errorf("2001 tokens: %v at %d", e, at)
	}
}

// P1.5 (writing).
func TestWriting(t *testing.T) {
	r := rand.New(rand.NewPCG(5, 1))
	for range 500 {
		s := script(r, r.IntN(60), false)
		l := lex(t, s)
		var b strings.Builder
		for _, x := range l {
			if x.Kind == api.TokNumber {
				b.WriteString(strconv.Itoa(x.N))
			} else {
				b.WriteString(x.Text)
			}
			b.WriteString(" ")
		}
		if got := bare(lex(t, b.String())); !slices.Equal(got, bare(l)) {
			t.Fatalf("%q: %v", s, got)
		}
	}
}

// P1.6 (errors).
func TestErrorsStay(t *testing.T) {
	r := rand.New(rand.NewPCG(6, 1))
	ends := regexp.MustCompile(`^([a-z][a-z0-9_]*|[0-9]+|;|(?s:.))`)
	tried := 0
	for range 3000 {
		s := script(r, r.IntN(40), true)
		_, e, at := lexer.Lex(s)
		if e == api.OK {
			continue
		}
		tried++
		lex(t, s[:at])
		end := at + len(ends.FindString(s[at:]))
		for _, more := range []string{"", " ", " A", " 007", " ;;; #", " a 5;"} {
			if l, e2, at2 := lexer.Lex(s[:end] + more); e2 != e || at2 != at || len(l) > 0 {
				t.Fatalf("%q: %v at %d, continued by %q: %v at %d", s, e, at, more, e2, at2)
			}
		}
	}
	if tried < 500 {
		t.Errorf("only %d scripts have errors", tried)
	}
}
