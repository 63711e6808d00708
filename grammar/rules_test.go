package grammar_test

import (
	"errors"
	"maps"
	"slices"
	"strings"
	"testing"

	"predict/api"
	"predict/grammar"
	"predict/plain"
)

// compiled: the parser of a grammar that can be used.
func compiled(t *testing.T, src string) *grammar.Parser {
	t.Helper()
	p, err := grammar.Compile(src)
	if err != nil || p == nil {
		t.Fatalf("P3: Compile(%q) = %v, %v", src, p, err)
	}
	return p
}

// rising: the words of a set, with a blank between them; the end is '$'.
func rising(m map[string]struct{}) string {
	l := slices.Sorted(maps.Keys(m))
	for k, w := range l {
		if w == "" {
			l[k] = "$"
		}
	}
	return strings.Join(l, " ")
}

func TestRulesInOrder(t *testing.T) {
	for _, c := range []struct {
		src    string
		names  []string
		places []int
	}{
		{`s = .`, []string{"s"}, []int{0}},
		{"\n s=.", []string{"s"}, []int{2}},
		{`s = t { u } . t = "a" . u = "b" | "c" [ "d" ] .`, []string{"s", "t", "u"}, []int{0, 14, 24}},
		{`z1=y2 x3.x3="x".y2="y".`, []string{"z1", "x3", "y2"}, []int{0, 9, 16}},
		{`abcdefgh = t . t = "t" abcdefgh | .`, []string{"abcdefgh", "t"}, []int{0, 15}},
	} {
		p, fault := plain.Compile(c.src)
		if p == nil {
			t.Fatalf("P3: Compile(%q): %+v", c.src, fault)
		}
		for stop := range len(c.names) + 2 {
			told := len(c.names)
			if stop > 0 {
				told = min(stop, told)
			}
			names, places, over := p.Rules(stop)
			if !slices.Equal(names, c.names[:told]) || !slices.Equal(places, c.places[:told]) || over {
				t.Errorf("P4: %q: Rules, told to end behind %d: %v, %v, %v", c.src, stop, names, places, over)
			}
		}
	}
}

// TestRulesTwelve: all of as many rules as there may be, and as many as are asked for.
func TestRulesTwelve(t *testing.T) {
	p := compiled(t, manyRules(api.MaxRules))
	for stop := 1; stop <= api.MaxRules; stop++ {
		told := 0
		for range p.Rules() {
			told++
			if told == stop {
				break
			}
		}
		if told != stop {
			t.Errorf("P4: %d rules told, want %d", told, stop)
		}
	}
}

// TestRulesAgain: one function may be gone through again, and one within the other.
func TestRulesAgain(t *testing.T) {
	rules := compiled(t, `s = t . t = "a" .`).Rules()
	told := ""
	for a := range rules {
		for b := range rules {
			told += a + b + " "
		}
	}
	if told != "ss st ts tt " {
		t.Errorf("P4: %q", told)
	}
}

func TestFirstAndFollow(t *testing.T) {
	for _, c := range []struct {
		src, name, first, follow string
	}{
		// The document's own.
		{`s = t "b" . t = [ "a" ] .`, "s", "a b", "$"},
		{`s = t "b" . t = [ "a" ] .`, "t", "$ a", "b"},
		// What may be nothing.
		{`s = .`, "s", "$", "$"},
		{`s = ( ) .`, "s", "$", "$"},
		{`s = [ "a" ] .`, "s", "$ a", "$"},
		{`s = { "a" } .`, "s", "$ a", "$"},
		{`s = "a" | .`, "s", "$ a", "$"},
		{`s = ( "a" | ) ( | "b" ) .`, "s", "$ a b", "$"},
		{`s = t u . t = [ "a" ] . u = { "b" } .`, "s", "$ a b", "$"},
		{`s = t u . t = [ "a" ] . u = { "b" } .`, "t", "$ a", "$ b"},
		{`s = t u . t = [ "a" ] . u = { "b" } .`, "u", "$ b", "$"},
		{`s = t u "c" . t = [ "a" ] . u = { "b" } .`, "s", "a b c", "$"},
		{`s = t u "c" . t = [ "a" ] . u = { "b" } .`, "t", "$ a", "b c"},
		{`s = t . t = u . u = v . v = .`, "s", "$", "$"},
		{`s = t . t = u . u = v . v = .`, "v", "$", "$"},
		// What may not.
		{`s = "a" .`, "s", "a", "$"},
		{`s = "a" [ "b" ] .`, "s", "a", "$"},
		{`s = [ "a" ] { "b" } "c" "d" .`, "s", "a b c", "$"},
		{`s = "c" | "a" | "b" .`, "s", "a b c", "$"},
		// A rule that names itself.
		{`s = "a" [ s ] "b" .`, "s", "a", "$ b"},
		{`s = "a" s | "b" .`, "s", "a b", "$"},
		{`s = "a" s "c" | .`, "s", "$ a", "$ c"},
		// What is behind a name in brackets.
		{`s = ( t ) "a" . t = "b" .`, "t", "b", "a"},
		{`s = [ t ] "a" . t = "b" .`, "t", "b", "a"},
		{`s = { t } "a" . t = "b" .`, "t", "b", "a b"},
		{`s = { "x" t } "a" . t = "b" .`, "t", "b", "a x"},
		{`s = { t "x" } "a" . t = "b" .`, "t", "b", "x"},
		{`s = { "x" [ "y" t ] } . t = "b" .`, "t", "b", "$ x"},
		{`s = ( t | "c" t "d" ) "a" . t = "b" .`, "t", "b", "a d"},
		{`s = { "x" { t } } "a" . t = "b" .`, "t", "b", "a b x"},
		{`s = t [ "c" ] { "d" } . t = "b" .`, "t", "b", "$ c d"},
		// Through the rules that end with it.
		{`s = "x" t "a" | "y" u . t = "b" u . u = "c" .`, "u", "c", "$ a"},
		{`s = u "z" . u = "c" t . t = "b" [ u ] .`, "t", "b", "z"},
		{`s = u "z" . u = "c" t . t = "b" [ u ] .`, "u", "c", "z"},
		{`s = t "y" . t = "c" u v . u = "b" . v = [ "d" ] .`, "u", "b", "d y"},
	} {
		p := compiled(t, c.src)
		first, e := p.First(c.name)
		follow, f := p.Follow(c.name)
		if e != nil || f != nil || rising(first) != c.first || rising(follow) != c.follow {
			t.Errorf("P5: %q, of %s: %s; %s; %v; %v; want %s; %s", c.src, c.name, rising(first), rising(follow), e, f, c.first, c.follow)
		}
	}
}

// TestNoSuchRule: a name that no rule has, and a parser that has no rule.
func TestNoSuchRule(t *testing.T) {
	p := compiled(t, `s = "a" t . t = "word" .`)
	for _, name := range []string{"", "a", "word", "u", "S", "s ", " s", "ss", "st", "\x00", "\xff", "s = .", "$", strings.Repeat("s", 1000)} {
		for _, q := range []*grammar.Parser{p, nil, new(grammar.Parser)} {
			first, e := q.First(name)
			follow, f := q.Follow(name)
			if first != nil || follow != nil || !errors.Is(e, api.ErrRule) || !errors.Is(f, api.ErrRule) {
				t.Errorf("P5: of %q: %v, %v, %v, %v", name, first, e, follow, f)
			}
		}
	}
	for _, q := range []*grammar.Parser{nil, new(grammar.Parser)} {
		for name, at := range q.Rules() {
			t.Errorf("P4: of no grammar: %q, %d", name, at)
		}
	}
}

// TestMapsAreNew (P1, P5): what a caller writes into a map changes no later answer, not of the other call, nor of Compile's next parser.
func TestMapsAreNew(t *testing.T) {
	src := `s = t "b" . t = [ "a" ] .`
	p := compiled(t, src)
	for range 3 {
		for _, name := range []string{"s", "t"} {
			for _, q := range []*grammar.Parser{p, compiled(t, src)} {
				first, _ := q.First(name)
				follow, _ := q.Follow(name)
				want := map[string][2]string{"s": {"a b", "$"}, "t": {"$ a", "b"}}[name]
				if got := [2]string{rising(first), rising(follow)}; got != want {
					t.Errorf("P1: of %s: %q, want %q", name, got, want)
				}
				clear(first)
				first["x"], follow["y"] = struct{}{}, struct{}{}
				delete(follow, "b")
			}
		}
	}
}
