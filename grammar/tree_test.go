package grammar_test

import (
	"strings"
	"testing"

	"predict/api"
	"predict/grammar"
)

// nodeText: a tree in few signs.
func nodeText(n api.Node) string {
	switch x := n.(type) {
	case *api.Leaf:
		return "'" + x.Word
	case *api.Rule:
		return x.Name + "(" + nodeText(x.Body) + ")"
	case *api.Row:
		return "row(" + nodeTexts(x.Parts) + ")"
	case *api.Pick:
		return string(rune('0'+x.Index)) + ":" + nodeText(x.Body)
	case *api.Maybe:
		return "?(" + nodeText(x.Body) + ")"
	case *api.Many:
		return "*(" + nodeTexts(x.Items) + ")"
	}
	return "-"
}

func nodeTexts(l []api.Node) string {
	var out []string
	for _, n := range l {
		out = append(out, nodeText(n))
	}
	return strings.Join(out, " ")
}

// below: the nodes right below one.
func below(n api.Node) []api.Node {
	switch x := n.(type) {
	case *api.Rule:
		return []api.Node{x.Body}
	case *api.Row:
		return x.Parts
	case *api.Pick:
		return []api.Node{x.Body}
	case *api.Maybe:
		if x.Body != nil {
			return []api.Node{x.Body}
		}
	case *api.Many:
		return x.Items
	}
	return nil
}

// spoil: all that can be changed of a tree.
func spoil(n api.Node) {
	for _, x := range below(n) {
		spoil(x)
	}
	clear(below(n))
	switch x := n.(type) {
	case *api.Leaf:
		*x = api.Leaf{Words: api.Words{From: 7, To: 9}, Word: "spoilt"}
	case *api.Rule:
		*x = api.Rule{Name: "spoilt"}
	case *api.Row:
		x.From, x.Parts = 5, append(x.Parts, nil)
	case *api.Pick:
		*x = api.Pick{Index: 9}
	case *api.Maybe:
		*x = api.Maybe{Body: &api.Leaf{Word: "spoilt"}}
	case *api.Many:
		x.To, x.Items = 77, append(x.Items, &api.Leaf{Word: "spoilt"})
	}
}

// spans: of all nodes of a tree, each ahead of those below it.
func spans(n api.Node) [][2]int {
	from, to := n.Span()
	out := [][2]int{{from, to}}
	for _, x := range below(n) {
		out = append(out, spans(x)...)
	}
	return out
}

func TestRootOfNone(t *testing.T) {
	var none *grammar.Tree
	if n := none.Root(); n != nil {
		t.Errorf("P6: Root of no tree: %#v", n)
	}
	if n := new(grammar.Tree).Root(); n != nil {
		t.Errorf("P6: Root of an empty tree: %#v", n)
	}
}

// TestNodesAreCallers (P1): what a caller changes in the nodes and lists of a tree changes no later answer: not of that tree, nor of another.
func TestNodesAreCallers(t *testing.T) {
	const src = `s = [ "a" ] { "b" | t t } ( "d" ) [ "e" ] . t = "c" { "f" } | "g" .`
	const want = "s(row(?(row('a)) *(0:row('b) 1:row(t(0:row('c *(row('f) row('f)))) t(1:row('g)))) row('d) ?(-)))"
	words := strings.Fields("a b c f f g d")
	p := compiled(t, src)
	x, err := p.Parse(telling(words...))
	if err != nil {
		t.Fatalf("P6: %v", err)
	}
	first := spans(x.Root())
	for range 3 {
		again, _ := p.Parse(telling(words...))
		for _, tree := range []*grammar.Tree{x, again} {
			n := tree.Root()
			if got := nodeText(n); got != want {
				t.Fatalf("P1: %s, want %s", got, want)
			}
			got := spans(n)
			if len(got) != len(first) {
				t.Fatalf("P1: %v, want %v", got, first)
			}
			for k := range got {
				if got[k] != first[k] {
					t.Fatalf("P1: %v, want %v", got, first)
				}
			}
			spoil(n)
		}
	}
}

// TestWantIsCallers (P1): what a caller changes in an error changes no later one.
func TestWantIsCallers(t *testing.T) {
	p := asking(t, `s = { "a" } "b" .`)
	q := compiled(t, `s = { "a" } "b" .`)
	for range 3 {
		if f := p.Parse([]string{"a"}).F; strings.Join(f.Want, " ") != "a b" || f.At != 1 {
			t.Errorf("P1: %+v", f)
		}
		_, err := q.Parse(telling("a"))
		e, ok := err.(*api.InputError)
		if !ok || strings.Join(e.Want, " ") != "a b" || e.At != 1 {
			t.Fatalf("P1: %#v", err)
		}
		clear(e.Want)
		e.At, e.Word, e.Why = 99, "spoilt", nil
	}
}

// apart: how many nodes of a tree are apart from each other.
func apart(n api.Node, seen map[api.Node]bool) int {
	if !seen[n] {
		seen[n] = true
		for _, x := range below(n) {
			apart(x, seen)
		}
	}
	return len(seen)
}

// counted: how many nodes a tree has.
func counted(n api.Node) int {
	sum := 1
	for _, x := range below(n) {
		sum += counted(x)
	}
	return sum
}

// nothings: a grammar of so many rules, each of which names the next so many times, and the last of which is nothing.
func nothings(rules, names int) string {
	src := ""
	for k := range rules - 1 {
		next := string(rune('a' + k + 1))
		src += string(rune('a'+k)) + "=" + strings.Repeat(next+" ", names-1) + next + "."
	}
	return src + string(rune('a'+rules-1)) + "=."
}

// TestAllApart (P1): no node stands in two places of a tree.
func TestAllApart(t *testing.T) {
	for _, c := range []struct{ src, words string }{
		{`s = t t t "a" t t . t = u u . u = .`, "a"},
		{`s = { "a" t } . t = [ "b" ] u [ "c" ] u . u = ( ) .`, "a b a c a b c a"},
		{nothings(api.MaxRules, 2), ""},
	} {
		x, err := compiled(t, c.src).Parse(telling(strings.Fields(c.words)...))
		if err != nil {
			t.Fatalf("P6: %q on %q: %v", c.src, c.words, err)
		}
		n := x.Root()
		if got, want := apart(n, map[api.Node]bool{}), counted(n); got != want {
			t.Errorf("P1: %q on %q: %d nodes, %d of them apart", c.src, c.words, want, got)
		}
	}
}

// TestManyNothings (P1): a grammar may name what is nothing so often that no tree with nodes of their own could ever be made: the call ends.
func TestManyNothings(t *testing.T) {
	for _, c := range []struct{ rules, names int }{{9, 5}, {api.MaxRules, 17}} {
		src := nothings(c.rules, c.names)
		x, err := compiled(t, src).Parse(nil)
		if err != nil {
			t.Fatalf("P6: %q: %v", src, err)
		}
		n := x.Root()
		if got := apart(n, map[api.Node]bool{}); got > 100000 {
			t.Fatalf("P1: %q: %d nodes were made", src, got)
		}
		deep := 0
		for ; n != nil; deep++ {
			l := below(n)
			n = nil
			if len(l) > 0 {
				n = l[len(l)-1]
			}
		}
		if deep != 2*c.rules {
			t.Errorf("P6: %q: %d nodes below each other, the last ones", src, deep)
		}
	}
	inLoop := `s={"x"a}.` + nothings(api.MaxRules-1, 13)
	x, err := compiled(t, inLoop).Parse(telling(times(api.MaxWords, "x")...))
	if err != nil {
		t.Fatalf("P6: %q: %v", inLoop, err)
	}
	loop := x.Root().(*api.Rule).Body.(*api.Row).Parts[0].(*api.Many)
	for k, item := range loop.Items {
		a := item.(*api.Row).Parts[1].(*api.Rule)
		for _, b := range a.Body.(*api.Row).Parts {
			if from, to := b.Span(); a.From != k+1 || a.To != k+1 || from != k+1 || to != k+1 {
				t.Fatalf("P6: %q: nothing behind word %d is from %d to %d, and within from %d to %d", inLoop, k, a.From, a.To, from, to)
			}
		}
	}
	if told := asking(t, nothings(api.MaxRules, 17)).Parse([]string{"a"}); told.F.What != unknown || told.F.Want[0] != "" {
		t.Errorf("P6: %+v", told)
	}
}
