package grammar

import (
	"maps"
	"slices"
	"strings"

	"predict/api"
)

// enough: so many parts become nodes of their own. Beyond them a rule that has become nothing at a place stands there as one node, however often it is named: in a grammar of MaxText bytes that can be some 17^11 times, and Parse is to end.
const enough = 10000

// descent: an input on its way down the rules. All that could stand ahead is worked out as a word is asked for, from what is behind in this very input: so a word that came is sure to be one that some row, or what is behind, begins with, and nothing but asking for a word can fail.
type descent struct {
	*Parser
	words <-chan string
	more  chan<- bool
	next  string               // the word ahead; "": the end
	at    int                  // its number
	made  int                  // parts that have become nodes
	last  map[string]*api.Rule // by name; one that begins at the word ahead is nothing
}

// descend: the whole tree of the words that come.
func (p *Parser) descend(words <-chan string, more chan<- bool) (api.Node, error) {
	d := &descent{Parser: p, words: words, more: more, last: map[string]*api.Rule{}}
	first, end := p.rules[0], set{"": {}}
	if err := d.ask(p.sets.tells(first.body, end)); err != nil {
		return nil, err
	}
	return d.rule(first.name, end)
}

// ask: for the word ahead, which must be one of those that could stand. In the set "" is the end; a word that is told as "" is none.
func (d *descent) ask(want set) error {
	if d.at > 0 {
		d.more <- true
	}
	w, told := <-d.words
	if told && d.at == api.MaxWords {
		return api.ErrLong
	}
	if !want.has(w) || told && w == "" {
		return d.fault(w, told, want)
	}
	d.next = w
	return nil
}

func (d *descent) fault(w string, told bool, want set) error {
	e := &api.InputError{At: d.at, Word: strings.Clone(w), Want: slices.Sorted(maps.Keys(want))}
	if !told {
		e.Why = api.ErrEnd
	} else if !d.hasWord(w) {
		e.Why = api.ErrUnknown
	}
	return e
}

// rule, and all below: the tree of it, if those words could come behind it.
func (d *descent) rule(name string, behind set) (api.Node, error) {
	if n := d.last[name]; n != nil && n.From == d.at && d.made > enough {
		return n, nil
	}
	n := &api.Rule{Words: d.here(), Name: name}
	body, err := d.expression(d.body(name), behind)
	if err != nil {
		return nil, err
	}
	n.Body, n.To = body, d.at
	d.last[name] = n
	return n, nil
}

func (d *descent) expression(e expression, behind set) (api.Node, error) {
	if len(e) == 1 {
		return d.row(e[0].parts, behind)
	}
	n := &api.Pick{Words: d.here()}
	n.Index = slices.IndexFunc(e, func(r row) bool { return d.sets.tellsRow(r.parts, behind).has(d.next) })
	body, err := d.row(e[n.Index].parts, behind)
	if err != nil {
		return nil, err
	}
	n.Body, n.To = body, d.at
	return n, nil
}

func (d *descent) row(parts []part, behind set) (api.Node, error) {
	n := &api.Row{Words: d.here()}
	for p, after := range d.sets.withAfter(parts, behind) {
		tree, err := d.part(p, after)
		if err != nil {
			return nil, err
		}
		n.Parts = append(n.Parts, tree)
	}
	n.To = d.at
	return n, nil
}

func (d *descent) part(p part, behind set) (api.Node, error) {
	d.made++
	switch x := p.(type) {
	case *word:
		return d.leaf(x.text, behind)
	case *name:
		return d.rule(x.text, behind)
	case *option:
		return d.maybe(x, behind)
	case *loop:
		return d.many(x, behind)
	}
	return d.expression(p.within(), behind)
}

func (d *descent) leaf(text string, behind set) (api.Node, error) {
	n := &api.Leaf{Words: d.here(), Word: text}
	d.at++
	n.To = d.at
	if err := d.ask(behind); err != nil {
		return nil, err
	}
	return n, nil
}

func (d *descent) maybe(x *option, behind set) (api.Node, error) {
	n := &api.Maybe{Words: d.here()}
	if !d.begins(x) {
		return n, nil
	}
	body, err := d.expression(x.in, behind)
	if err != nil {
		return nil, err
	}
	n.Body, n.To = body, d.at
	return n, nil
}

func (d *descent) many(x *loop, behind set) (api.Node, error) {
	n := &api.Many{Words: d.here()}
	within := d.sets.afterWithin(x, behind)
	for d.begins(x) {
		item, err := d.expression(x.in, within)
		if err != nil {
			return nil, err
		}
		n.Items = append(n.Items, item)
	}
	n.To = d.at
	return n, nil
}

// begins: whether the word ahead is one of a part. What stands in an option or a loop is never nothing, for then it would clash with what is behind.
func (d *descent) begins(p part) bool { return d.sets.firstOf(p).has(d.next) }

// here: no words, at the place of the one ahead.
func (d *descent) here() api.Words { return api.Words{From: d.at, To: d.at} }

// body: of a rule that there is.
func (p *Parser) body(name string) expression {
	k := slices.IndexFunc(p.rules, func(r rule) bool { return r.name == name })
	return p.rules[k].body
}

// hasWord: whether a word stands in some rule.
func (p *Parser) hasWord(text string) bool {
	for _, r := range p.rules {
		for x := range r.body.allParts() {
			if w, ok := x.(*word); ok && w.text == text {
				return true
			}
		}
	}
	return false
}
