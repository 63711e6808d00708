package grammar

// rule: a name, the place of it, and its expression.
type rule struct {
	name string
	at   int
	body expression
}

// expression: one or more rows.
type expression []row

// row: its parts, and the place of the '|' ahead of it (0 for an expression's first row, which has none).
type row struct {
	at    int
	parts []part
}

// part: *word, *name, *option, *loop or *group. A word and a name have nothing within.
type part interface {
	within() expression
}

type word struct {
	single
	text string
}

type name struct {
	single
	text string
	at   int
}

type option struct{ bracket }

type loop struct{ bracket }

// group: round brackets.
type group struct{ bracket }

type single struct{}

func (single) within() expression { return nil }

// bracket: the place of the opening sign, and the expression behind it.
type bracket struct {
	at int
	in expression
}

func (b bracket) within() expression { return b.in }

// allParts: those of an expression, and those within them, in the order of the text.
func (e expression) allParts() func(yield func(part) bool) {
	return func(yield func(part) bool) { e.tellParts(yield) }
}

// tellParts answers whether more is wanted, so that a call within a call can end all of them.
func (e expression) tellParts(yield func(part) bool) bool {
	for _, r := range e {
		for _, p := range r.parts {
			if !yield(p) || !p.within().tellParts(yield) {
				return false
			}
		}
	}
	return true
}

// names: those that stand in an expression, in the order of the text.
func (e expression) names() func(yield func(*name) bool) {
	return func(yield func(*name) bool) {
		for p := range e.allParts() {
			if n, ok := p.(*name); ok && !yield(n) {
				return
			}
		}
	}
}
