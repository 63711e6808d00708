package grammar_test

import (
	"iter"
	"math"
	"slices"
	"strconv"
	"strings"
	"sync"
	"testing"

	"predict/api"
	"predict/grammar"
)

// head: a node without those below it: what it is, and its words.
func head(n api.Node) string {
	what := "no node"
	switch x := n.(type) {
	case *api.Leaf:
		what = "'" + x.Word
	case *api.Rule:
		what = x.Name
	case *api.Row:
		what = "row"
	case *api.Pick:
		what = "pick" + strconv.Itoa(x.Index)
	case *api.Maybe:
		what = "maybe"
	case *api.Many:
		what = "many"
	case nil:
		return what
	}
	from, to := n.Span()
	return what + " " + strconv.Itoa(from) + "-" + strconv.Itoa(to)
}

// full: a node with all below it.
func full(n api.Node) string {
	var in []string
	for _, x := range below(n) {
		in = append(in, full(x))
	}
	return head(n) + " (" + strings.Join(in, ", ") + ")"
}

// parsed: the tree of words, with blanks between them.
func parsed(t *testing.T, src, words string) *grammar.Tree {
	t.Helper()
	x, err := compiled(t, src).Parse(telling(strings.Fields(words)...))
	if err != nil || x == nil {
		t.Fatalf("P6: %q on %q: %v", src, words, err)
	}
	return x
}

// walked: what Walk tells, each node by its head; false is answered behind so many.
func walked(x *grammar.Tree, stop int) []string {
	var out []string
	x.Walk()(func(deep int, n api.Node) bool {
		out = append(out, strconv.Itoa(deep)+" "+head(n))
		return len(out) < stop
	})
	return out
}

// from: what Walk is to tell of a node and all below it.
func from(n api.Node, deep int) []string {
	out := []string{strconv.Itoa(deep) + " " + head(n)}
	for _, x := range below(n) {
		out = append(out, from(x, deep+1)...)
	}
	return out
}

// grown: grammars, and inputs of them, with each kind of node.
func grown() []struct{ src, words string } {
	return []struct{ src, words string }{
		{`s = "a" [ s ] "b" .`, "a a b b"},
		{`s = .`, ""},
		{`s = { "a" } [ "b" ] ( "c" | ) .`, ""},
		{`s = { "a" | t } ( ( "b" ) "c" ) [ t ] . t = "d" | "e" { "f" "g" } .`, "a d e f g f g b c e"},
		{`s = t [ "a" ] t { "b" } t "c" t . t = u u . u = ( ) .`, "c"},
	}
}

// TestWalk (P7): each node ahead of those below it, from left to right, with how deep it stands.
func TestWalk(t *testing.T) {
	for _, c := range []struct{ src, words, want string }{
		// The document's own.
		{`s = "a" [ s ] "b" .`, "a a b b", "0 s 0-4, 1 row 0-4, 2 'a 0-1, 2 maybe 1-3, 3 row 1-3, 4 s 1-3, 5 row 1-3, 6 'a 1-2, 6 maybe 2-2, 6 'b 2-3, 2 'b 3-4"},
		// A row of no part, of one, of several.
		{`s = .`, "", "0 s 0-0, 1 row 0-0"},
		{`s = "a" .`, "a", "0 s 0-1, 1 row 0-1, 2 'a 0-1"},
		{`s = "a" "b" "a" .`, "a b a", "0 s 0-3, 1 row 0-3, 2 'a 0-1, 2 'b 1-2, 2 'a 2-3"},
		// Rules.
		{`s = t "b" t . t = "a" .`, "a b a", "0 s 0-3, 1 row 0-3, 2 t 0-1, 3 row 0-1, 4 'a 0-1, 2 'b 1-2, 2 t 2-3, 3 row 2-3, 4 'a 2-3"},
		{`s = t t . t = u . u = .`, "", "0 s 0-0, 1 row 0-0, 2 t 0-0, 3 row 0-0, 4 u 0-0, 5 row 0-0, 2 t 0-0, 3 row 0-0, 4 u 0-0, 5 row 0-0"},
		// A choice.
		{`s = "a" | "b" "c" .`, "b c", "0 s 0-2, 1 pick1 0-2, 2 row 0-2, 3 'b 0-1, 3 'c 1-2"},
		{`s = "a" | .`, "", "0 s 0-0, 1 pick1 0-0, 2 row 0-0"},
		// An option: left out, and not.
		{`s = [ "a" ] .`, "", "0 s 0-0, 1 row 0-0, 2 maybe 0-0"},
		{`s = [ "a" ] .`, "a", "0 s 0-1, 1 row 0-1, 2 maybe 0-1, 3 row 0-1, 4 'a 0-1"},
		{`s = [ "a" | "b" ] "c" .`, "b c", "0 s 0-2, 1 row 0-2, 2 maybe 0-1, 3 pick1 0-1, 4 row 0-1, 5 'b 0-1, 2 'c 1-2"},
		// A loop: of no item, of one, of several.
		{`s = { "a" } "b" .`, "b", "0 s 0-1, 1 row 0-1, 2 many 0-0, 2 'b 0-1"},
		{`s = { "a" } "b" .`, "a b", "0 s 0-2, 1 row 0-2, 2 many 0-1, 3 row 0-1, 4 'a 0-1, 2 'b 1-2"},
		{`s = { "a" [ "b" ] } .`, "a b a", "0 s 0-3, 1 row 0-3, 2 many 0-3, 3 row 0-2, 4 'a 0-1, 4 maybe 1-2, 5 row 1-2, 6 'b 1-2, 3 row 2-3, 4 'a 2-3, 4 maybe 3-3"},
		// Round brackets: no node but that of what stands within.
		{`s = ( "a" ) .`, "a", "0 s 0-1, 1 row 0-1, 2 row 0-1, 3 'a 0-1"},
		{`s = ( "a" | "b" ) ( ) .`, "b", "0 s 0-1, 1 row 0-1, 2 pick1 0-1, 3 row 0-1, 4 'b 0-1, 2 row 1-1"},
	} {
		x := parsed(t, c.src, c.words)
		if got := strings.Join(walked(x, math.MaxInt), ", "); got != c.want {
			t.Errorf("P7: %q on %q:\n%s, want\n%s", c.src, c.words, got, c.want)
		}
		var got []string
		for deep, n := range x.Walk() {
			got = append(got, strconv.Itoa(deep)+" "+head(n))
		}
		if strings.Join(got, ", ") != c.want {
			t.Errorf("P7: %q on %q, by range: %q, want %s", c.src, c.words, got, c.want)
		}
	}
}

// TestWalkTellsWhole (P7): each node is told with all that stands below it.
func TestWalkTellsWhole(t *testing.T) {
	for _, c := range grown() {
		x := parsed(t, c.src, c.words)
		var want []string
		var all func(n api.Node)
		all = func(n api.Node) {
			want = append(want, full(n))
			for _, y := range below(n) {
				all(y)
			}
		}
		all(x.Root())
		var got []string
		for _, n := range x.Walk() {
			got = append(got, full(n))
		}
		if !slices.Equal(got, want) {
			t.Errorf("P7: %q on %q: %q, want %q", c.src, c.words, got, want)
		}
	}
}

// TestWalkEnds (P7): behind a false nothing is told, at whichever node it comes.
func TestWalkEnds(t *testing.T) {
	for _, c := range grown() {
		x := parsed(t, c.src, c.words)
		all := from(x.Root(), 0)
		for stop := 1; stop <= len(all)+1; stop++ {
			if got, want := walked(x, stop), all[:min(stop, len(all))]; !slices.Equal(got, want) {
				t.Errorf("P7: %q on %q, false at the node %d: %q, want %q", c.src, c.words, stop, got, want)
			}
			got := 0
			for range x.Walk() {
				if got++; got == stop {
					break
				}
			}
			if got != min(stop, len(all)) {
				t.Errorf("P7: %q on %q, a break at the node %d: %d", c.src, c.words, stop, got)
			}
		}
		told := asking(t, c.src).Parse(strings.Fields(c.words)).Tree
		for stop := range len(all) + 2 {
			want := min(stop, len(all))
			if stop == 0 {
				want = len(all)
			}
			if l, over := told.Walk(stop); len(l) != want || over {
				t.Errorf("P7: %q on %q, false at the node %d: %q, %t", c.src, c.words, stop, l, over)
			}
		}
	}
}

// TestWalkAgain (P7): what Walk answers can be gone through any number of times, one within another, and some of the way.
func TestWalkAgain(t *testing.T) {
	for _, c := range grown() {
		x := parsed(t, c.src, c.words)
		all := from(x.Root(), 0)
		walk := x.Walk()
		through := func(within func(deep int)) []string {
			var out []string
			for deep, n := range walk {
				within(deep)
				out = append(out, strconv.Itoa(deep)+" "+head(n))
			}
			return out
		}
		other := func(int) {
			if got := through(func(int) {}); !slices.Equal(got, all) {
				t.Errorf("P7: %q on %q, within another: %q, want %q", c.src, c.words, got, all)
			}
		}
		broken := func(deep int) {
			for d := range walk {
				if d >= deep {
					break
				}
			}
		}
		for k, within := range []func(int){func(int) {}, other, broken, func(int) {}} {
			if got := through(within); !slices.Equal(got, all) {
				t.Errorf("P7: %q on %q, time %d: %q, want %q", c.src, c.words, k, got, all)
			}
		}
	}
}

// TestWalkPulled (P7): one node at a time, as far as it is asked for.
func TestWalkPulled(t *testing.T) {
	x := parsed(t, `s = "a" [ s ] "b" .`, "a a b b")
	all := from(x.Root(), 0)
	for stop := range len(all) + 1 {
		next, end := iter.Pull2(iter.Seq2[int, api.Node](x.Walk()))
		for k := range stop {
			deep, n, ok := next()
			if got := strconv.Itoa(deep) + " " + head(n); !ok || got != all[k] {
				t.Errorf("P7: node %d: %s, want %s", k, got, all[k])
			}
		}
		if stop == len(all) {
			if _, n, ok := next(); ok || n != nil {
				t.Errorf("P7: %v behind the last node", n)
			}
		}
		end()
	}
}

// TestWalkOfNone (P7): of no tree nothing is told; and without a yield there is nothing to tell it to.
func TestWalkOfNone(t *testing.T) {
	for _, x := range []*grammar.Tree{nil, new(grammar.Tree)} {
		for deep, n := range x.Walk() {
			t.Errorf("P7: of no tree: %d, %v", deep, n)
		}
		x.Walk()(nil)
	}
	parsed(t, `s = "a" .`, "a").Walk()(nil)
	if l, over := asking(t, `s = "a" .`).Parse([]string{"b"}).Tree.Walk(0); len(l) != 0 || over {
		t.Errorf("P7: of no tree: %q, %t", l, over)
	}
}

// TestWalkedAreCallers (P1): what a caller changes in a node that was told changes none that is told later, nor any later answer; and none that was told ahead.
func TestWalkedAreCallers(t *testing.T) {
	for _, c := range grown() {
		p := compiled(t, c.src)
		x := parsed(t, c.src, c.words)
		want, all := full(x.Root()), from(x.Root(), 0)
		var got []string
		var nodes []api.Node
		var texts []string
		for deep, n := range x.Walk() {
			got = append(got, strconv.Itoa(deep)+" "+head(n))
			spoil(n)
		}
		for _, n := range x.Walk() {
			nodes, texts = append(nodes, n), append(texts, full(n))
		}
		for k := len(nodes) - 1; k >= 0; k-- {
			if now := full(nodes[k]); now != texts[k] {
				t.Errorf("P1: %q on %q: %s was told, and is %s now", c.src, c.words, texts[k], now)
			}
			spoil(nodes[k])
		}
		again, err := p.Parse(telling(strings.Fields(c.words)...))
		if err != nil || full(again.Root()) != want || full(x.Root()) != want || !slices.Equal(got, all) || !slices.Equal(walked(x, math.MaxInt), all) {
			t.Errorf("P1: %q on %q: %q, then %q; %s, %s, %v, want %s", c.src, c.words, got, walked(x, math.MaxInt), full(x.Root()), full(again.Root()), err, want)
		}
	}
}

// TestTreeAtATime (P1): one tree is gone through by many at a time, and each changes what it got.
func TestTreeAtATime(t *testing.T) {
	x := parsed(t, `s = { "a" | t } ( ( "b" ) "c" ) [ t ] . t = "d" | "e" { "f" "g" } .`, "a d e f g f g b c e")
	all, calls := from(x.Root(), 0), folded(x)
	var wg sync.WaitGroup
	for range 16 {
		wg.Go(func() {
			for range 10 {
				var got []string
				for deep, n := range x.Walk() {
					got = append(got, strconv.Itoa(deep)+" "+head(n))
					spoil(n)
				}
				spoil(x.Root())
				if now := folded(x); !slices.Equal(got, all) || !slices.Equal(now, calls) {
					t.Errorf("P1: %q and %q, want %q and %q", got, now, all, calls)
				}
			}
		})
	}
	wg.Wait()
}

// TestWalkManyNothings (P7, P1): a tree may have more nodes than can ever be told: Walk begins at once and ends when it is told to.
func TestWalkManyNothings(t *testing.T) {
	x := parsed(t, nothings(api.MaxRules, 17), "")
	const stop = 100000
	got, deepest := 0, 0
	var before int
	for deep, n := range x.Walk() {
		if deep > before+1 || n == nil {
			t.Fatalf("P7: %d behind %d, %v", deep, before, n)
		}
		got, deepest, before = got+1, max(deepest, deep), deep
		if got == stop {
			break
		}
	}
	if got != stop || deepest != 2*api.MaxRules-1 {
		t.Errorf("P7: %d nodes, the deepest at %d", got, deepest)
	}
	if got, want := len(walked(parsed(t, nothings(7, 5), ""), math.MaxInt)), 39062; got != want {
		t.Errorf("P7: %d nodes, want %d", got, want)
	}
}
