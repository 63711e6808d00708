package grammar_test

import (
	"maps"
	"math/rand/v2"
	"slices"
	"strconv"
	"strings"
	"testing"

	"predict/api"
	"predict/grammar"
)

// model: a grammar as plain rules, without brackets: what stands in brackets is a rule of its own, with a number as its name; an option is that or nothing, a loop is that and the loop again, or nothing. A word has a '"' ahead.
type model struct {
	text   string
	rules  []placed // the rules of the text
	used   []placed // the names in their expressions
	signs  []sign   // where a clash may be
	bodies map[string][][]shape
	alts   map[string][][]string
	empty  map[string]bool
	first  map[string]map[string]bool
	follow map[string]map[string]bool
}

type placed struct {
	name string
	at   int
}

// shape: a part as it is written: a word ('"'), a name ('a'), or a bracket with what stands in it.
type shape struct {
	kind byte
	text string
	rows [][]shape
}

// sign: at it begins that alternative of that rule; of an option and a loop the one that is nothing, for all of it is known at the bracket.
type sign struct {
	at   int
	rule string
	alt  int
}

// scribe: writes a grammar by chance, as text and as a model.
type scribe struct {
	*rand.Rand
	*model
	names, words []string
	below        int  // the names from here on have rules that come later
	mild         bool // what is written is to be usable, where that is easy
}

func (s *scribe) put(token string) int {
	s.text += strings.Repeat(" ", s.IntN(2))
	at := len(s.text)
	s.text += token
	if token[0] >= 'a' && token[0] <= 'z' {
		s.text += " "
	}
	return at
}

func (s *scribe) fresh() string {
	name := strconv.Itoa(len(s.alts))
	s.alts[name] = nil
	return name
}

func (s *scribe) expression(rule string, depth int) [][]shape {
	rows := make([][]shape, 1+max(0, s.IntN(5)-2))
	for k := range rows {
		if k > 0 {
			s.signs = append(s.signs, sign{s.put("|"), rule, k})
		}
		var alt []string
		for range s.parts(rows, k) {
			plain, written := s.part(depth, len(alt))
			alt, rows[k] = append(alt, plain), append(rows[k], written)
		}
		s.alts[rule] = append(s.alts[rule], alt)
	}
	return rows
}

// parts: how many a row has. Two rows of a choice that are nothing would clash.
func (s *scribe) parts(rows [][]shape, k int) int {
	if s.mild && (len(rows) == 1 || k > 0) {
		return 1 + s.IntN(3)
	}
	return s.IntN(4)
}

func (s *scribe) part(depth, ahead int) (string, shape) {
	kind := s.IntN(8)
	if depth == 3 {
		kind = s.IntN(5)
	}
	if s.mild && depth > 0 && ahead == 0 && s.IntN(4) > 0 {
		kind = 0
	}
	switch kind {
	case 0, 1, 2:
		w := s.words[s.IntN(len(s.words))]
		s.put(`"` + w + `"`)
		return `"` + w, shape{kind: '"', text: w}
	case 3, 4:
		n := s.names[s.IntN(len(s.names))]
		if s.below < len(s.names) && s.IntN(8) > 0 {
			// Rules that name later ones derive something and are come to, so that more of them can be used.
			n = s.names[s.below+s.IntN(len(s.names)-s.below)]
		}
		s.used = append(s.used, placed{n, s.put(n)})
		return n, shape{kind: 'a', text: n}
	}
	within, whole := s.fresh(), s.fresh()
	at := s.put("([{"[kind-5 : kind-4])
	written := shape{kind: "([{"[kind-5], rows: s.expression(within, depth+1)}
	s.put(")]}"[kind-5 : kind-4])
	if kind == 5 {
		return within, written
	}
	s.signs = append(s.signs, sign{at, whole, 1})
	s.alts[whole] = [][]string{{within}, nil}
	if kind == 7 {
		s.alts[whole][0] = []string{within, whole}
	}
	return whole, written
}

const letters = "abcdefghijklmnopqrstuvwxyzABCDEFGHIJKLMNOPQRSTUVWXYZ"

// chance: a grammar of few names and few words, so that they meet; or a mild one, of many words.
func chance(r *rand.Rand, mild bool) *model {
	s := &scribe{Rand: r, model: &model{alts: map[string][][]string{}, bodies: map[string][][]shape{}}, mild: mild}
	count, words := 1+r.IntN(4), 2+r.IntN(12)
	if mild {
		words = len(letters)
	}
	for k := range count {
		s.names = append(s.names, "stuvw"[k:k+1])
	}
	for k := range words {
		s.words = append(s.words, letters[k:k+1])
	}
	for k, n := range slices.Clone(s.names) {
		s.below = k + 1
		if !mild && r.IntN(30) == 0 {
			n = s.names[0]
		}
		if !mild && r.IntN(30) == 0 {
			s.names = append(s.names, "x")
		}
		s.rules = append(s.rules, placed{n, s.put(n)})
		s.put("=")
		s.alts[n] = nil
		s.bodies[n] = s.expression(n, 0)
		s.put(".")
	}
	slices.SortFunc(s.signs, func(a, b sign) int { return a.at - b.at })
	return s.model
}

// begins: with which words a list of words and rules may, and whether it may be nothing.
func (m *model) begins(list []string) (map[string]bool, bool) {
	out := map[string]bool{}
	for _, x := range list {
		if x[0] == '"' {
			out[x[1:]] = true
			return out, false
		}
		maps.Copy(out, m.first[x])
		if !m.empty[x] {
			return out, false
		}
	}
	return out, true
}

// solve: over and over, until nothing is new.
func (m *model) solve() {
	m.empty, m.first, m.follow = map[string]bool{}, map[string]map[string]bool{}, map[string]map[string]bool{}
	for n := range m.alts {
		m.first[n], m.follow[n] = map[string]bool{}, map[string]bool{}
	}
	m.follow[m.rules[0].name][""] = true
	for before := -1; before != m.size(); {
		before = m.size()
		for n, alts := range m.alts {
			for _, alt := range alts {
				begin, nothing := m.begins(alt)
				maps.Copy(m.first[n], begin)
				m.empty[n] = m.empty[n] || nothing
				for k, x := range alt {
					if x[0] == '"' {
						continue
					}
					behind, nothing := m.begins(alt[k+1:])
					if nothing {
						maps.Copy(behind, m.follow[n])
					}
					maps.Copy(m.follow[x], behind)
				}
			}
		}
	}
}

func (m *model) size() int {
	size := 0
	for n := range m.alts {
		size += len(m.first[n]) + len(m.follow[n])
		if m.empty[n] {
			size++
		}
	}
	return size
}

// tells: the words that choose an alternative of a rule.
func (m *model) tells(rule string, alt int) map[string]bool {
	out, nothing := m.begins(m.alts[rule][alt])
	if nothing {
		maps.Copy(out, m.follow[rule])
	}
	return out
}

// deriving: the rules that derive a list.
func (m *model) deriving() map[string]bool {
	out := map[string]bool{}
	for before := -1; before != len(out); {
		before = len(out)
		for n, alts := range m.alts {
			if slices.ContainsFunc(alts, func(alt []string) bool {
				return !slices.ContainsFunc(alt, func(x string) bool { return x[0] != '"' && !out[x] })
			}) {
				out[n] = true
			}
		}
	}
	return out
}

// reached: the rules that come up below another.
func (m *model) reached(rule string, out map[string]bool) map[string]bool {
	if out[rule] {
		return out
	}
	out[rule] = true
	for _, alt := range m.alts[rule] {
		for _, x := range alt {
			if x[0] != '"' {
				m.reached(x, out)
			}
		}
	}
	return out
}

// verdict: P3, by the model. It is solved on the way, if its names are well.
func (m *model) verdict() verdict {
	if len(m.text) > api.MaxText {
		return verdict{kind: "ErrLong"}
	}
	seen := map[string]bool{}
	for _, r := range m.rules {
		if seen[r.name] {
			return twice(r.at, r.name)
		}
		seen[r.name] = true
	}
	for _, u := range m.used {
		if !seen[u.name] {
			return none(u.at, u.name)
		}
	}
	deriving, reached := m.deriving(), m.reached(m.rules[0].name, map[string]bool{})
	for _, r := range m.rules {
		if !deriving[r.name] || !reached[r.name] {
			return useless(r.at, r.name)
		}
	}
	m.solve()
	for _, s := range m.signs {
		var shared []string
		for w := range m.tells(s.rule, s.alt) {
			for ahead := range s.alt {
				if m.tells(s.rule, ahead)[w] {
					shared = append(shared, w)
				}
			}
		}
		if len(shared) > 0 {
			return clashing(s.at, slices.Min(shared))
		}
	}
	return usable
}

// compare: First and Follow of each rule, and Rules, with the model.
func (m *model) compare(t *testing.T) {
	t.Helper()
	p, _ := grammar.Compile(m.text)
	var rules []placed
	for name, at := range p.Rules() {
		rules = append(rules, placed{name, at})
	}
	if !slices.Equal(rules, m.rules) {
		t.Errorf("P4: %q: %v, want %v", m.text, rules, m.rules)
	}
	for _, r := range m.rules {
		first, e := p.First(r.name)
		follow, f := p.Follow(r.name)
		begin := maps.Clone(m.first[r.name])
		if m.empty[r.name] {
			begin[""] = true
		}
		if e != nil || f != nil || !sameWords(first, begin) || !sameWords(follow, m.follow[r.name]) {
			t.Errorf("P5: %q, of %s: %v, %v, %v, %v; want %v, %v", m.text, r.name, first, follow, e, f, begin, m.follow[r.name])
		}
	}
}

func sameWords(got map[string]struct{}, want map[string]bool) bool {
	return slices.Equal(slices.Sorted(maps.Keys(got)), slices.Sorted(maps.Keys(want)))
}

// TestByModel (P3, P4, P5): grammars by chance (the same each time), held against the model. Each kind of answer must have come up often.
func TestByModel(t *testing.T) {
	r := rand.New(rand.NewPCG(1, 2))
	count := map[string]int{}
	for range 15000 {
		m := chance(r, false)
		want := m.verdict()
		count[want.kind]++
		if want.kind == "clash" {
			count["clash at "+m.text[want.at:want.at+1]]++
			if want.text == "" {
				count["clash of the end"]++
			}
		}
		if got := judge(t, m.text); got != want {
			t.Fatalf("P3: Compile(%q): %v, want %v", m.text, got, want)
		}
		if want == usable {
			count["parser of "+strconv.Itoa(len(m.rules))]++
			m.compare(t)
		}
	}
	for _, kind := range []string{"parser of 1", "parser of 2", "parser of 3", "twice", "none", "useless", "clash", "clash at |", "clash at [", "clash at {", "clash of the end"} {
		if count[kind] < 30 {
			t.Errorf("%s came up %d times: the grammars are too much alike", kind, count[kind])
		}
	}
	t.Log(count)
}
