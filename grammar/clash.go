package grammar

import "predict/api"

// checkClashes: the first clash in the order of the text, or nil.
func checkClashes(rules []rule, s sets) error {
	for _, r := range rules {
		if err := s.clashIn(r.body, s.after[r.name]); err != nil {
			return err
		}
	}
	return nil
}

// clashIn: the first clash in an expression that has those words behind it. A '|' stands ahead of its row, so it is looked at ahead of what is in the row.
func (s sets) clashIn(e expression, after set) error {
	ahead := set{}
	for _, r := range e {
		tells := s.tellsRow(r.parts, after)
		if err := clashAt(r.at, tells, ahead); err != nil {
			return err
		}
		ahead.addAll(tells)
		if err := s.clashInRow(r.parts, after); err != nil {
			return err
		}
	}
	return nil
}

func (s sets) clashInRow(parts []part, after set) error {
	for p, behind := range s.withAfter(parts, after) {
		within := s.afterWithin(p, behind)
		if err := s.clashAtPart(p, within, behind); err != nil {
			return err
		}
		if err := s.clashIn(p.within(), within); err != nil {
			return err
		}
	}
	return nil
}

// clashAtPart: at the sign with which an option or a loop begins; within and behind: what is behind the expression in it, and behind itself.
func (s sets) clashAtPart(p part, within, behind set) error {
	switch x := p.(type) {
	case *option:
		return clashAt(x.at, s.tells(x.in, within), behind)
	case *loop:
		return clashAt(x.at, s.tells(x.in, within), behind)
	}
	return nil
}

// clashAt: the clash at a place, if both sets share a word.
func clashAt(at int, a, b set) error {
	if w, ok := leastShared(a, b); ok {
		return &api.ClashError{At: at, Word: w}
	}
	return nil
}
