package grammar_test

import (
	"errors"
	"maps"
	"math"
	"math/rand/v2"
	"slices"
	"strconv"
	"strings"
	"testing"

	"predict/api"
	"predict/grammar"
	"predict/plain"
)

// ahead: the words that could come next, each with what is left behind it; "": nothing need be left. left: words and rules that are still to come. It tries every rule's every alternative, and knows of no sets.
func (m *model) ahead(t *testing.T, left []string) map[string][]string {
	out := map[string][]string{}
	put := func(w string, rest []string) {
		if _, ok := out[w]; ok {
			t.Fatalf("%q: two ways to go on by %q", m.text, w)
		}
		out[w] = rest
	}
	for work := [][]string{left}; len(work) > 0; {
		l := work[0]
		work = work[1:]
		switch {
		case len(l) == 0:
			put("", nil)
		case l[0][0] == '"':
			put(l[0][1:], l[1:])
		default:
			for _, alt := range m.alts[l[0]] {
				work = append(work, slices.Concat(alt, l[1:]))
			}
		}
	}
	return out
}

// hasWord: whether a word stands in a rule.
func (m *model) hasWord(w string) bool {
	for _, alts := range m.alts {
		for _, alt := range alts {
			if slices.Contains(alt, `"`+w) {
				return true
			}
		}
	}
	return false
}

// told: an input, and what is to come of it.
type told struct {
	words []string
	fault plain.Fault
	asked int
}

// wild: any word, or what is none.
func (m *model) wild(r *rand.Rand) string {
	all := []string{"", "s", "zz"}
	for _, rule := range slices.Sorted(maps.Keys(m.alts)) {
		for _, x := range slices.Concat(m.alts[rule]...) {
			if x[0] == '"' {
				all = append(all, x[1:])
			}
		}
	}
	return all[r.IntN(len(all))]
}

// pick: the word that is told next, if it is not the end. Where the input is to be long it ends only where it must.
func (m *model) pick(r *rand.Rand, could []string, long bool) (w string, end bool) {
	if long {
		w = could[len(could)-1-r.IntN((len(could)+1)/2)]
		return w, w == ""
	}
	if r.IntN(25) == 0 {
		return m.wild(r), false
	}
	w = could[r.IntN(len(could))]
	return w, w == "" || r.IntN(40) == 0
}

// input: words by chance, that stand for the most part.
func (m *model) input(t *testing.T, r *rand.Rand) told {
	var in told
	left, long := []string{m.rules[0].name}, r.IntN(4) == 0
	for {
		next := m.ahead(t, left)
		could := slices.Sorted(maps.Keys(next))
		w, end := m.pick(r, could, long)
		in.asked = len(in.words)
		rest, stands := next[w]
		switch {
		case end && slices.Contains(could, ""):
			return in
		case end:
			in.fault = plain.Fault{What: endsEarly, At: len(in.words), Want: could}
			return in
		}
		in.words = append(in.words, w)
		in.asked++
		switch {
		case in.asked > api.MaxWords:
			in.fault = plain.Fault{What: tooLong}
		case w == "" || !stands:
			in.fault = plain.Fault{What: cannot, At: in.asked - 1, S: w, Want: could}
			if !m.hasWord(w) {
				in.fault.What = unknown
			}
		default:
			left = rest
			continue
		}
		in.words = append(in.words, could...)
		return in
	}
}

// fitting: whether a tree is one of the grammar and of the words. There is just one of an input: so if it fits, it is that one.
type fitting struct {
	*model
	words []string
	at    int
}

func (f *fitting) span(n api.Node, from int) bool {
	a, b := n.Span()
	return a == from && b == f.at
}

func (f *fitting) expression(n api.Node, rows [][]shape) bool {
	if len(rows) == 1 {
		return f.row(n, rows[0])
	}
	from := f.at
	x, ok := n.(*api.Pick)
	return ok && x.Index >= 0 && x.Index < len(rows) && f.row(x.Body, rows[x.Index]) && f.span(x, from)
}

func (f *fitting) row(n api.Node, parts []shape) bool {
	from := f.at
	x, ok := n.(*api.Row)
	if !ok || len(x.Parts) != len(parts) {
		return false
	}
	for k, p := range parts {
		if !f.part(x.Parts[k], p) {
			return false
		}
	}
	return f.span(x, from)
}

func (f *fitting) part(n api.Node, p shape) bool {
	from := f.at
	switch x := n.(type) {
	case *api.Leaf:
		f.at++
		return p.kind == '"' && x.Word == p.text && f.at <= len(f.words) && f.words[from] == p.text && f.span(x, from)
	case *api.Rule:
		return p.kind == 'a' && x.Name == p.text && f.expression(x.Body, f.bodies[p.text]) && f.span(x, from)
	case *api.Maybe:
		return p.kind == '[' && (x.Body == nil || f.expression(x.Body, p.rows) && f.at > from) && f.span(x, from)
	case *api.Many:
		for _, item := range x.Items {
			before := f.at
			if !f.expression(item, p.rows) || f.at == before {
				return false
			}
		}
		return p.kind == '{' && f.span(x, from)
	}
	return p.kind == '(' && f.expression(n, p.rows)
}

// compareInputs: what Parse makes of words by chance, with the model. The kinds of answers are counted.
func (m *model) compareInputs(t *testing.T, r *rand.Rand, count map[string]int) {
	t.Helper()
	p, q := asking(t, m.text), compiled(t, m.text)
	for range 20 {
		in := m.input(t, r)
		got := p.Parse(in.words)
		if !sameFault(got.F, in.fault) || got.Asked != in.asked || got.Again || (got.Tree != nil) != (in.fault.What == 0) {
			t.Fatalf("P6: %q on %q: %+v, want %+v", m.text, in.words, got, in)
		}
		count["input "+[]string{tooLong: "long", cannot: "cannot", unknown: "unknown", endsEarly: "end", 0: "tree"}[in.fault.What]]++
		x, _ := q.Parse(telling(in.words...))
		if in.fault.What == 0 {
			m.fit(t, x, in.words, count)
		}
	}
}

func (m *model) fit(t *testing.T, x *grammar.Tree, words []string, count map[string]int) {
	t.Helper()
	f := &fitting{m, words, 0}
	n := x.Root()
	if !f.part(n, shape{kind: 'a', text: m.rules[0].name}) || f.at != len(words) {
		t.Fatalf("P6: %q on %q: %s", m.text, words, nodeText(n))
	}
	if got, want := walked(x, math.MaxInt), from(n, 0); !slices.Equal(got, want) {
		t.Fatalf("P7: %q on %q: %q, want %q", m.text, words, got, want)
	}
	if got, want := folded(x), calling(n); !slices.Equal(got, want) {
		t.Fatalf("P8: %q on %q: %q, want %q", m.text, words, got, want)
	}
	for _, sign := range []string{"?(r", "?(-", "*()", "*(row", "1:"} {
		if strings.Contains(nodeText(n), sign) {
			count["tree with "+sign]++
		}
	}
}

// TestInputsByModel (P6, P7, P8): grammars and inputs by chance (the same each time), held against the model; and the trees that come of them, gone through. Each kind of answer must have come up often.
func TestInputsByModel(t *testing.T) {
	r := rand.New(rand.NewPCG(3, 4))
	count := map[string]int{}
	for range 9000 {
		m := chance(r, true)
		if m.verdict() == usable {
			count["parser of "+strconv.Itoa(len(m.rules))]++
			m.compareInputs(t, r, count)
		}
	}
	for _, kind := range []string{"parser of 1", "parser of 2", "parser of 3", "parser of 4", "input tree", "input long", "input cannot", "input unknown", "input end", "tree with ?(r", "tree with ?(-", "tree with *()", "tree with *(row", "tree with 1:"} {
		if count[kind] < 30 {
			t.Errorf("%s came up %d times: the inputs are too much alike", kind, count[kind])
		}
	}
	t.Log(count)
}

// leaves: their words, in order. What is nothing is passed over: there may be very much of it.
func leaves(n api.Node) []string {
	if x, ok := n.(*api.Leaf); ok {
		return []string{x.Word}
	}
	if from, to := n.Span(); from == to {
		return nil
	}
	var out []string
	for _, x := range below(n) {
		out = append(out, leaves(x)...)
	}
	return out
}

// through: a tree by Walk and by Fold. One that is too great for that is gone through some of the way.
func through(t *testing.T, x *grammar.Tree) {
	const few = 10000
	told := walked(x, few)
	if len(told) == few {
		return
	}
	if want := from(x.Root(), 0); !slices.Equal(told, want) {
		t.Errorf("P7: %q, want %q", told, want)
	}
	if got, want := folded(x), calling(x.Root()); !slices.Equal(got, want) {
		t.Errorf("P8: %q, want %q", got, want)
	}
}

// FuzzParse: any text and any words, with a blank between them. What holds of every parse, if the grammar can be used.
func FuzzParse(f *testing.F) {
	f.Add(`s = "a" [ s ] "b" .`, "a a b b")
	f.Add(`s = [ "a" ] { "b" } "c" .`, "d")
	f.Add(`s = { "a" | t } . t = "b" ( "c" | ) .`, "a b  c")
	f.Add(nothings(5, 3), "")
	f.Fuzz(func(t *testing.T, src, text string) {
		p, _ := grammar.Compile(src)
		if p == nil {
			return
		}
		words := strings.Split(text, " ")
		asked := 0
		x, err := p.Parse(func(yield func(string) bool) {
			for asked < len(words) {
				asked++
				if !yield(words[asked-1]) {
					return
				}
			}
		})
		var e *api.InputError
		switch {
		case err == nil:
			if asked != len(words) || !slices.Equal(leaves(x.Root()), words) {
				t.Errorf("P6: %q on %q: %s", src, words, nodeText(x.Root()))
			}
			through(t, x)
		case x != nil:
			t.Errorf("P1: %q on %q: a tree beside %v", src, words, err)
		case err == api.ErrLong:
			if asked != api.MaxWords+1 {
				t.Errorf("P6: %q on %q: too long, %d asked", src, words, asked)
			}
		case errors.As(err, &e):
			at := asked - 1
			if errors.Is(err, api.ErrEnd) {
				at = len(words)
			}
			if e.At != at || len(e.Want) == 0 || !slices.IsSorted(e.Want) || e.Word != "" && slices.Contains(e.Want, e.Word) {
				t.Errorf("P6: %q on %q: %#v, %d asked", src, words, e, asked)
			}
		default:
			t.Errorf("P6: %q on %q: %v", src, words, err)
		}
	})
}
