package grammar_test

import (
	"errors"
	"maps"
	"strings"
	"sync"
	"testing"

	"predict/api"
	"predict/grammar"
)

// strange: texts, names and words that a caller may hand in.
func strange() []string {
	return []string{"", " ", "s", "t", "a", "b", "\"a\"", "no rule", "\x00", "\xff", "é", "s = .", strings.Repeat("s", 1000)}
}

// strangeTexts: as strange, and every byte by itself and within a rule.
func strangeTexts() []string {
	l := strange()
	for k := range 256 {
		b := string([]byte{byte(k)})
		l = append(l, b, "s ="+b, "s = "+b+" .", "s = \""+b, strings.Repeat(b, api.MaxText), "s = "+strings.Repeat(b, 50)+" .")
	}
	return l
}

// parsers: compiled ones, and such as no Compile has made.
func parsers(t *testing.T) []*grammar.Parser {
	t.Helper()
	l := []*grammar.Parser{nil, new(grammar.Parser)}
	for _, src := range []string{`s = "a" [ s ] "b" .`, `s = { "a" } t . t = "b" | .`} {
		p, err := grammar.Compile(src)
		if err != nil || p == nil {
			t.Fatalf("Compile(%q) = %v, %v", src, p, err)
		}
		l = append(l, p)
	}
	return l
}

// telling: words as a function to be gone through, which ends when it is told to.
func telling(words ...string) func(yield func(string) bool) {
	return func(yield func(string) bool) {
		for _, w := range words {
			if !yield(w) {
				return
			}
		}
	}
}

// TestCompileAnyText (P1): no text makes Compile panic, and beside an error there is no parser.
func TestCompileAnyText(t *testing.T) {
	for _, src := range strangeTexts() {
		if p, err := grammar.Compile(src); err != nil && p != nil {
			t.Errorf("P1: Compile(%q): a parser beside the error %v", src, err)
		}
	}
}

// TestSameAgain (P1): what a caller changes in an error changes nothing of the next.
func TestSameAgain(t *testing.T) {
	for range 3 {
		_, err := grammar.Compile("s = ( ] .")
		var s *api.SyntaxError
		if !errors.As(err, &s) || s.At != 6 || s.Deep {
			t.Fatalf("P1: Compile: %#v", err)
		}
		s.At, s.Deep = 99, true
	}
}

// TestAnyNames (P1): no name makes First or Follow panic; beside an error there is no map; a map is the caller's.
func TestAnyNames(t *testing.T) {
	for _, p := range parsers(t) {
		for _, name := range strange() {
			for _, call := range []func(string) (map[string]struct{}, error){p.First, p.Follow} {
				m, err := call(name)
				if err != nil && m != nil {
					t.Errorf("P1: of %q: %v beside the error %v", name, m, err)
				}
				before := maps.Clone(m)
				if m != nil {
					clear(m)
					m["not a word"] = struct{}{}
				}
				if again, _ := call(name); !maps.Equal(before, again) {
					t.Errorf("P1: of %q: %v, and then %v", name, before, again)
				}
			}
		}
		p.Rules()(func(string, int) bool { return true })
		p.Rules()(func(string, int) bool { return false })
		p.Rules()(nil)
	}
}

// goThrough: every call that a tree has.
func goThrough(x *grammar.Tree) {
	x.Root()
	x.Walk()(func(int, api.Node) bool { return true })
	x.Walk()(func(int, api.Node) bool { return false })
	x.Walk()(nil)
	grammar.Fold(x, func(*api.Leaf) int { return 1 }, func(api.Node, []int) int { return 2 })
	grammar.Fold[int](x, nil, nil)
}

// TestAnyWords (P1): no input makes Parse panic; beside an error there is no tree; no tree can be gone through, too.
func TestAnyWords(t *testing.T) {
	inputs := []func(yield func(string) bool){nil, telling(), telling("a", "a", "b", "b"), telling("a", "b", "a")}
	for _, w := range strange() {
		inputs = append(inputs, telling(w), telling("a", w), telling("a", "b", w))
	}
	for _, p := range parsers(t) {
		for _, words := range inputs {
			x, err := p.Parse(words)
			if err != nil && x != nil {
				t.Errorf("P1: Parse: a tree beside the error %v", err)
			}
			goThrough(x)
		}
	}
	goThrough(nil)
	goThrough(new(grammar.Tree))
}

// TestManyAtATime (P1): parsers are made and used by many at a time, one parse within the words of another, too, and none hangs.
func TestManyAtATime(t *testing.T) {
	all := parsers(t)
	var wg sync.WaitGroup
	for k := range 32 {
		wg.Go(func() {
			p := all[k%len(all)]
			for range 20 {
				p.Parse(func(yield func(string) bool) {
					p.Parse(telling("a", "a", "b", "b"))
					telling("a", "b")(yield)
				})
				x, _ := p.Parse(telling("a", "b"))
				goThrough(x)
				if got, want := ask(t, "s = ( ] ."), (written{at: 6}); got != want {
					t.Errorf("P1: Compile: %+v, want %+v", got, want)
				}
			}
		})
	}
	wg.Wait()
}
