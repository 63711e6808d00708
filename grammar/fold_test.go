package grammar_test

import (
	"fmt"
	"math"
	"slices"
	"strconv"
	"strings"
	"testing"

	"predict/api"
	"predict/grammar"
)

// folded: what leaf and inner are handed in, in order. Each call makes its own number: so the lists tell of which nodes they are.
func folded(x *grammar.Tree) []string {
	var calls []string
	put := func(text string) int {
		calls = append(calls, text)
		return len(calls) - 1
	}
	grammar.Fold(x, func(n *api.Leaf) int {
		return put("leaf " + head(n))
	}, func(n api.Node, l []int) int {
		return put(fmt.Sprint(head(n), " ", l))
	})
	return calls
}

// calling: what leaf and inner are to be handed in, of a node and all below it.
func calling(n api.Node) []string {
	var calls []string
	var hand func(n api.Node) int
	hand = func(n api.Node) int {
		l := []int{}
		for _, x := range below(n) {
			l = append(l, hand(x))
		}
		text := fmt.Sprint(head(n), " ", l)
		if _, ok := n.(*api.Leaf); ok {
			text = "leaf " + head(n)
		}
		calls = append(calls, text)
		return len(calls) - 1
	}
	hand(n)
	return calls
}

// TestFold (P8): each node once, those below ahead, from left to right, with the list of what was made right below.
func TestFold(t *testing.T) {
	for _, c := range []struct{ src, words, want string }{
		// The document's first tree.
		{`s = "a" [ s ] "b" .`, "a a b b", "leaf 'a 0-1, leaf 'a 1-2, maybe 2-2 [], leaf 'b 2-3, row 1-3 [1 2 3], s 1-3 [4], row 1-3 [5], maybe 1-3 [6], leaf 'b 3-4, row 0-4 [0 7 8], s 0-4 [9]"},
		// A row of no part, of one, of several.
		{`s = .`, "", "row 0-0 [], s 0-0 [0]"},
		{`s = "a" .`, "a", "leaf 'a 0-1, row 0-1 [0], s 0-1 [1]"},
		{`s = "a" "b" "a" .`, "a b a", "leaf 'a 0-1, leaf 'b 1-2, leaf 'a 2-3, row 0-3 [0 1 2], s 0-3 [3]"},
		// Rules, of words and of none.
		{`s = t "b" t . t = "a" .`, "a b a", "leaf 'a 0-1, row 0-1 [0], t 0-1 [1], leaf 'b 1-2, leaf 'a 2-3, row 2-3 [4], t 2-3 [5], row 0-3 [2 3 6], s 0-3 [7]"},
		{`s = t t . t = u . u = .`, "", "row 0-0 [], u 0-0 [0], row 0-0 [1], t 0-0 [2], row 0-0 [], u 0-0 [4], row 0-0 [5], t 0-0 [6], row 0-0 [3 7], s 0-0 [8]"},
		// A choice.
		{`s = "a" | "b" "c" .`, "b c", "leaf 'b 0-1, leaf 'c 1-2, row 0-2 [0 1], pick1 0-2 [2], s 0-2 [3]"},
		{`s = "a" | .`, "", "row 0-0 [], pick1 0-0 [0], s 0-0 [1]"},
		// An option: left out, and not.
		{`s = [ "a" ] .`, "", "maybe 0-0 [], row 0-0 [0], s 0-0 [1]"},
		{`s = [ "a" ] .`, "a", "leaf 'a 0-1, row 0-1 [0], maybe 0-1 [1], row 0-1 [2], s 0-1 [3]"},
		// A loop: of no item, of one, of several.
		{`s = { "a" } .`, "", "many 0-0 [], row 0-0 [0], s 0-0 [1]"},
		{`s = { "a" } .`, "a", "leaf 'a 0-1, row 0-1 [0], many 0-1 [1], row 0-1 [2], s 0-1 [3]"},
		{`s = { "a" } "b" .`, "a a b", "leaf 'a 0-1, row 0-1 [0], leaf 'a 1-2, row 1-2 [2], many 0-2 [1 3], leaf 'b 2-3, row 0-3 [4 5], s 0-3 [6]"},
		// Round brackets: no node but that of what stands within.
		{`s = ( "a" ) .`, "a", "leaf 'a 0-1, row 0-1 [0], row 0-1 [1], s 0-1 [2]"},
		{`s = ( "a" | "b" ) ( ) .`, "b", "leaf 'b 0-1, row 0-1 [0], pick1 0-1 [1], row 1-1 [], row 0-1 [2 3], s 0-1 [4]"},
	} {
		if got := strings.Join(folded(parsed(t, c.src, c.words)), ", "); got != c.want {
			t.Errorf("P8: %q on %q:\n%s, want\n%s", c.src, c.words, got, c.want)
		}
	}
}

func ExampleFold() {
	p, _ := grammar.Compile(`s = "a" [ s ] "b" .`)
	tree, _ := p.Parse(telling("a", "a", "b", "b"))
	text := grammar.Fold(tree, func(n *api.Leaf) string {
		return n.Word
	}, func(n api.Node, below []string) string {
		all := strings.Join(below, "")
		if r, ok := n.(*api.Rule); ok {
			return r.Name + "(" + all + ")"
		}
		return all
	})
	fmt.Println(text)
	// Output: s(as(ab)b)
}

// TestFoldHandsWhole (P8): each node is handed in with all that stands below it; and what becomes of the uppermost is the answer.
func TestFoldHandsWhole(t *testing.T) {
	for _, c := range grown() {
		x := parsed(t, c.src, c.words)
		got := grammar.Fold(x, func(n *api.Leaf) string {
			return full(n)
		}, func(n api.Node, l []string) string {
			text := head(n) + " (" + strings.Join(l, ", ") + ")"
			if text != full(n) {
				t.Errorf("P8: %q on %q: %s is handed in with %q", c.src, c.words, full(n), l)
			}
			return text
		})
		if want := full(x.Root()); got != want {
			t.Errorf("P8: %q on %q: %s, want %s", c.src, c.words, got, want)
		}
		told := asking(t, c.src).Parse(strings.Fields(c.words)).Tree
		if s, calls, n := told.Folded(); s != told.Text() || n != counted(x.Root()) || len(calls) != n {
			t.Errorf("P8: %q on %q: %s, %q, %d", c.src, c.words, s, calls, n)
		}
		if got := told.Leaves(); strings.Join(got, " ") != c.words {
			t.Errorf("P8: %q on %q: leaves %q", c.src, c.words, got)
		}
	}
}

// size: of a tree.
type size struct{ leaves, others, height int }

// TestFoldToAll (P8): to texts, numbers, lists, structs, functions, pointers and interfaces.
func TestFoldToAll(t *testing.T) {
	x := parsed(t, `s = "if" e "then" s [ "else" s ] "fi" | "do" { s ";" } "od" | e . e = "x" .`, "if x then do x ; x ; od else x fi")
	text := func(_ api.Node, l []string) string { return "(" + strings.Join(l, " ") + ")" }
	if got := grammar.Fold(x, func(n *api.Leaf) string { return n.Word }, text); got != "(((if ((x)) then (((do (((((((x))))) ;) ((((((x))))) ;)) od))) ((else (((((x))))))) fi)))" {
		t.Errorf("P8: to a text: %s", got)
	}
	sum := func(_ api.Node, l []float64) (out float64) {
		for _, k := range l {
			out += k
		}
		return out
	}
	if got := grammar.Fold(x, func(n *api.Leaf) float64 { return float64(len(n.Word)) / 2 }, sum); got != 11 {
		t.Errorf("P8: to a number: %v", got)
	}
	if got := grammar.Fold(x, func(n *api.Leaf) []string { return []string{n.Word} }, func(_ api.Node, l [][]string) []string { return slices.Concat(l...) }); strings.Join(got, " ") != "if x then do x ; x ; od else x fi" {
		t.Errorf("P8: to a list: %q", got)
	}
	if got, want := grammar.Fold(x, func(*api.Leaf) size { return size{leaves: 1} }, inSize), sizeOf(x.Root()); got != want {
		t.Errorf("P8: to a struct: %+v, want %+v", got, want)
	}
	lines := grammar.Fold(x, func(n *api.Leaf) func(int) []string {
		return func(deep int) []string { return []string{strconv.Itoa(deep) + " " + head(n)} }
	}, func(n api.Node, l []func(int) []string) func(int) []string {
		return func(deep int) []string {
			out := []string{strconv.Itoa(deep) + " " + head(n)}
			for _, f := range l {
				out = append(out, f(deep+1)...)
			}
			return out
		}
	})
	if got, want := lines(0), walked(x, math.MaxInt); !slices.Equal(got, want) {
		t.Errorf("P8: to a function: %q, want %q", got, want)
	}
	if got := grammar.Fold(x, func(n *api.Leaf) *api.Leaf { return n }, func(_ api.Node, l []*api.Leaf) *api.Leaf { return l[len(l)-1] }); got == nil || head(got) != "'fi 11-12" {
		t.Errorf("P8: to a pointer: %v", got)
	}
	if got := grammar.Fold(x, func(n *api.Leaf) api.Node { return nil }, func(n api.Node, l []api.Node) api.Node { return n }); full(got) != full(x.Root()) {
		t.Errorf("P8: to an interface: %s", full(got))
	}
}

func inSize(_ api.Node, l []size) size {
	out := size{others: 1}
	for _, s := range l {
		out = size{out.leaves + s.leaves, out.others + s.others, max(out.height, s.height+1)}
	}
	return out
}

// sizeOf: by way of the nodes themselves.
func sizeOf(n api.Node) size {
	if _, ok := n.(*api.Leaf); ok {
		return size{leaves: 1}
	}
	var l []size
	for _, x := range below(n) {
		l = append(l, sizeOf(x))
	}
	return inSize(n, l)
}

// zero: what Fold makes of no tree; neither function may be called.
func zero[T any](t *testing.T, x *grammar.Tree) T {
	return grammar.Fold(x, func(*api.Leaf) (out T) {
		t.Errorf("P8: of no tree: leaf is called")
		return out
	}, func(api.Node, []T) (out T) {
		t.Errorf("P8: of no tree: inner is called")
		return out
	})
}

// TestFoldOfNone (P8): of no tree it is T's zero value.
func TestFoldOfNone(t *testing.T) {
	for _, x := range []*grammar.Tree{nil, new(grammar.Tree)} {
		if zero[int](t, x) != 0 || zero[string](t, x) != "" || zero[[]int](t, x) != nil || zero[size](t, x) != (size{}) || zero[func()](t, x) != nil || zero[any](t, x) != nil || zero[*int](t, x) != nil || zero[[2]bool](t, x) != [2]bool{} || zero[map[string]int](t, x) != nil {
			t.Errorf("P8: of no tree: not the zero value")
		}
		if got := grammar.Fold[int](x, nil, nil); got != 0 {
			t.Errorf("P8: of no tree, by no function: %d", got)
		}
	}
}

// TestFoldByNone (P1): a function that is none makes nothing, and no call panics.
func TestFoldByNone(t *testing.T) {
	x := parsed(t, `s = "a" [ s ] "b" .`, "a a b b")
	leaf := func(*api.Leaf) int { return 1 }
	inner := func(_ api.Node, l []int) int {
		sum := 10
		for _, k := range l {
			sum += k
		}
		return sum
	}
	for _, c := range []struct {
		leaf  func(*api.Leaf) int
		inner func(api.Node, []int) int
		want  int
	}{{leaf, inner, 74}, {nil, inner, 70}, {leaf, nil, 0}, {nil, nil, 0}} {
		if got := grammar.Fold(x, c.leaf, c.inner); got != c.want {
			t.Errorf("P1: %d, want %d", got, c.want)
		}
	}
}

// TestFoldedAreCallers (P1): what a caller changes in a node or a list that was handed in changes none that is handed in later, nor any later answer.
func TestFoldedAreCallers(t *testing.T) {
	for _, c := range grown() {
		p := compiled(t, c.src)
		x := parsed(t, c.src, c.words)
		want, calls, all := full(x.Root()), calling(x.Root()), from(x.Root(), 0)
		var lists [][]string
		var texts []string
		got := grammar.Fold(x, func(n *api.Leaf) string {
			text := full(n)
			spoil(n)
			return text
		}, func(n api.Node, l []string) string {
			text := head(n) + " (" + strings.Join(l, ", ") + ")"
			if full(n) != text {
				t.Errorf("P1: %q on %q: %s is handed in, want %s", c.src, c.words, full(n), text)
			}
			spoil(n)
			lists, texts = append(lists, l), append(texts, strings.Join(l, ", "))
			return text
		})
		for k, l := range lists {
			if now := strings.Join(l, ", "); now != texts[k] {
				t.Errorf("P1: %q on %q: the list was %s, and is %s now", c.src, c.words, texts[k], now)
			}
			clear(append(l, "spoilt")[:len(l)+1])
			clear(l)
		}
		again, err := p.Parse(telling(strings.Fields(c.words)...))
		if err != nil || got != want || full(x.Root()) != want || full(again.Root()) != want || !slices.Equal(folded(x), calls) || !slices.Equal(walked(x, math.MaxInt), all) {
			t.Errorf("P1: %q on %q: %s, then %s, %s, %v, want %s", c.src, c.words, got, full(x.Root()), full(again.Root()), err, want)
		}
	}
}

// TestFoldWithin (P8): folds of one tree within each other do not mix, nor with Walk or a parse.
func TestFoldWithin(t *testing.T) {
	for _, c := range grown() {
		p := compiled(t, c.src)
		x := parsed(t, c.src, c.words)
		want := calling(x.Root())
		var calls []string
		look := func() {
			again, err := p.Parse(telling(strings.Fields(c.words)...))
			if err != nil || !slices.Equal(folded(x), want) || !slices.Equal(folded(again), want) || len(walked(x, math.MaxInt)) != len(want) {
				t.Errorf("P8: %q on %q, within another: %q, %v", c.src, c.words, folded(x), err)
			}
		}
		grammar.Fold(x, func(n *api.Leaf) int {
			look()
			calls = append(calls, "leaf "+head(n))
			return len(calls) - 1
		}, func(n api.Node, l []int) int {
			look()
			calls = append(calls, fmt.Sprint(head(n), " ", l))
			return len(calls) - 1
		})
		if !slices.Equal(calls, want) {
			t.Errorf("P8: %q on %q: %q, want %q", c.src, c.words, calls, want)
		}
	}
}

// nodesOf: how many nodes the tree of nothings(rules, names) has.
func nodesOf(rules, names int) int {
	sum, row := 0, 1
	for range rules {
		sum += 2 * row
		row *= names
	}
	return sum
}

// call: what leaf or inner is to be handed in: the node, and the numbers of the calls for those right below it.
type call struct {
	node  string
	below []int
}

// upward: the calls of Fold by what Walk tells: a node's turn comes when Walk has left all below it.
func upward(x *grammar.Tree) []call {
	var calls, path []call
	leave := func(deep int) {
		for k := len(path) - 1; k >= deep; k-- {
			if k > 0 {
				path[k-1].below = append(path[k-1].below, len(calls))
			}
			calls = append(calls, path[k])
			path = path[:k]
		}
	}
	for deep, n := range x.Walk() {
		leave(deep)
		path = append(path, call{node: head(n)})
	}
	leave(0)
	return calls
}

// TestFoldOfMany (P8, P7): each node is handed in once, at each place where it stands, those below ahead, from left to right, however many there are: held against what Walk tells. No two calls make the same: so what was made at one place cannot stand for what is made at another.
func TestFoldOfMany(t *testing.T) {
	kinds := `s={"x"a["y"a]}(a|"z").`
	for _, c := range []struct {
		src, words string
		nodes      int
	}{
		{nothings(7, 5), "", nodesOf(7, 5)},
		{nothings(6, 8), "", nodesOf(6, 8)},
		{nothings(api.MaxRules, 2), "", nodesOf(api.MaxRules, 2)},
		// More than a million nodes, all of them nothing at one place.
		{nothings(5, 30), "", 1675862},
		{nothings(6, 14), "", nodesOf(6, 14)},
		// The same nothing at many places, among nodes of each kind.
		{kinds + nothings(4, 27), strings.Repeat("x y ", 29) + "z", 58*nodesOf(4, 27) + 29*5 + 6},
		{kinds + nothings(4, 27), strings.Repeat("x ", 59), 60*nodesOf(4, 27) + 59*3 + 5},
	} {
		x := parsed(t, c.src, c.words)
		want := upward(x)
		if len(want) != c.nodes {
			t.Errorf("P7: %q on %q: %d nodes, want %d", c.src, c.words, len(want), c.nodes)
		}
		calls, wrong := 0, 0
		turn := func(n api.Node, l []int) int {
			if calls >= len(want) || head(n) != want[calls].node || !slices.Equal(l, want[calls].below) {
				wrong++
			}
			calls++
			return calls - 1
		}
		last := grammar.Fold(x, func(n *api.Leaf) int { return turn(n, nil) }, turn)
		if calls != c.nodes || wrong > 0 || last != calls-1 {
			t.Errorf("P8: %q on %q: %d calls, %d of them wrong, the last with the number %d; want %d", c.src, c.words, calls, wrong, last, c.nodes)
		}
	}
}

// TestFoldCollects (P8, P1): of more than a million nodes each that is handed in is one of its own, which the caller may keep and change.
func TestFoldCollects(t *testing.T) {
	x := parsed(t, nothings(5, 30), "")
	kept := map[*api.Rule]int{}
	grammar.Fold(x, func(*api.Leaf) int { return 0 }, func(n api.Node, l []int) int {
		r, ok := n.(*api.Rule)
		if !ok {
			return 0
		}
		if len(l) != 1 || r.Name == "spoilt" || r.Body == nil {
			t.Fatalf("P1: %s is handed in with a list of %d", head(n), len(l))
		}
		kept[r]++
		r.Name, r.Body = "spoilt", nil
		return 0
	})
	if want := nodesOf(5, 30) / 2; len(kept) != want {
		t.Errorf("P8: %d rules were handed in, want %d", len(kept), want)
	}
}
