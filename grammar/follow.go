package grammar

// sets: what is known of a grammar's rules, by their names.
type sets struct {
	empty set            // the rules that may be nothing
	first map[string]set // First of their expressions
	after map[string]set // After of their expressions; the end is ""
}

// setsOf: of rules that have passed checkRules.
func setsOf(rules []rule) sets {
	s := sets{rulesThat(rules, canBeNothing), map[string]set{}, map[string]set{}}
	for _, r := range rules {
		s.first[r.name], s.after[r.name] = set{}, set{}
	}
	growAll(s.first, func() {
		for _, r := range rules {
			s.first[r.name].addAll(s.tells(r.body, nil))
		}
	})
	s.after[rules[0].name].add("")
	growAll(s.after, func() {
		for _, r := range rules {
			s.handOn(r.body, s.after[r.name])
		}
	})
	return s
}

// growAll: step by step, until a step adds no more.
func growAll(all map[string]set, step func()) {
	for before := -1; before < sizeOf(all); {
		before = sizeOf(all)
		step()
	}
}

func sizeOf(all map[string]set) int {
	size := 0
	for _, s := range all {
		size += len(s)
	}
	return size
}

// tells: Tells of an expression that has those words behind it: First, if it has none. The set is new.
func (s sets) tells(e expression, after set) set {
	out := set{}
	for _, r := range e {
		out.addAll(s.tellsRow(r.parts, after))
	}
	return out
}

// tellsRow: the same of parts in a row.
func (s sets) tellsRow(parts []part, after set) set {
	out := set{}
	for _, p := range parts {
		out.addAll(s.firstOf(p))
		if !canBeNothing(p, s.empty) {
			return out
		}
	}
	out.addAll(after)
	return out
}

func (s sets) firstOf(p part) set {
	switch x := p.(type) {
	case *word:
		return set{x.text: {}}
	case *name:
		return s.first[x.text]
	}
	return s.tells(p.within(), nil)
}

// withAfter: the parts of a row, each with what is behind it, if those words are behind the row. The sets are new.
func (s sets) withAfter(parts []part, after set) func(yield func(part, set) bool) {
	return func(yield func(part, set) bool) {
		for k, p := range parts {
			if !yield(p, s.tellsRow(parts[k+1:], after)) {
				return
			}
		}
	}
}

// afterWithin: what is behind the expression within a part, if those words are behind the part.
func (s sets) afterWithin(p part, after set) set {
	x, again := p.(*loop)
	if !again {
		return after
	}
	out := s.tells(x.in, nil)
	out.addAll(after)
	return out
}

// handOn: what is behind each name of an expression is behind that name's rule, too.
func (s sets) handOn(e expression, after set) {
	for _, r := range e {
		for p, behind := range s.withAfter(r.parts, after) {
			if n, ok := p.(*name); ok {
				s.after[n.text].addAll(behind)
			}
			s.handOn(p.within(), s.afterWithin(p, behind))
		}
	}
}
