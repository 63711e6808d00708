package grammar

import "predict/api"

// checkRules: the first fault of what rules there are and of their names, or nil.
func checkRules(rules []rule) error {
	if len(rules) == 0 {
		return api.ErrEmpty
	}
	if len(rules) > api.MaxRules {
		return api.ErrMany
	}
	if err := checkTwice(rules); err != nil {
		return err
	}
	if err := checkNone(rules); err != nil {
		return err
	}
	return checkUseless(rules)
}

func checkTwice(rules []rule) error {
	ahead := set{}
	for _, r := range rules {
		if ahead.has(r.name) {
			return &api.NameError{At: r.at, Name: r.name, What: api.Twice}
		}
		ahead.add(r.name)
	}
	return nil
}

func checkNone(rules []rule) error {
	known := set{}
	for _, r := range rules {
		known.add(r.name)
	}
	for _, r := range rules {
		for n := range r.body.names() {
			if !known.has(n.text) {
				return &api.NameError{At: n.at, Name: n.text, What: api.None}
			}
		}
	}
	return nil
}

func checkUseless(rules []rule) error {
	deriving, reached := rulesThat(rules, canDerive), reachedRules(rules)
	for _, r := range rules {
		if !deriving.has(r.name) || !reached.has(r.name) {
			return &api.NameError{At: r.at, Name: r.name, What: api.Useless}
		}
	}
	return nil
}

// reachedRules: the first rule, those that it names, those that these name, and so on.
func reachedRules(rules []rule) set {
	reached := set{rules[0].name: {}}
	for before := 0; before < len(reached); {
		before = len(reached)
		for _, r := range rules {
			if !reached.has(r.name) {
				continue
			}
			for n := range r.body.names() {
				reached.add(n.text)
			}
		}
	}
	return reached
}

// rulesThat: the rules of whose expression a row is there for each part of which something holds, as far as it must hold by the rules for which it does (it is asked with those that are known so far).
func rulesThat(rules []rule, holds func(p part, known set) bool) set {
	known := set{}
	for before := -1; before < len(known); {
		before = len(known)
		for _, r := range rules {
			if holdsInRow(r.body, known, holds) {
				known.add(r.name)
			}
		}
	}
	return known
}

// holdsInRow: whether in some row of an expression it holds for each part.
func holdsInRow(e expression, known set, holds func(p part, known set) bool) bool {
	for _, r := range e {
		all := true
		for _, p := range r.parts {
			all = all && holds(p, known)
		}
		if all {
			return true
		}
	}
	return false
}

// canDerive: whether a part derives any list. An option and a loop do: the empty one.
func canDerive(p part, known set) bool {
	switch x := p.(type) {
	case *name:
		return known.has(x.text)
	case *group:
		return holdsInRow(x.in, known, canDerive)
	}
	return true
}

// canBeNothing: whether a part derives the empty list.
func canBeNothing(p part, known set) bool {
	switch x := p.(type) {
	case *word:
		return false
	case *name:
		return known.has(x.text)
	case *group:
		return holdsInRow(x.in, known, canBeNothing)
	}
	return true
}
