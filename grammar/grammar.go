// Package grammar: grammars, and inputs that are parsed by them: see DOC.md.
package grammar

import (
	"maps"

	"predict/api"
)

// Parser: of a grammar. What it holds is never changed behind Compile, so that any number of calls may read it at a time.
type Parser struct {
	rules []rule
	sets  sets
}

// Compile: the parser of a grammar, or what is wrong with it (P2, P3).
func Compile(src string) (*Parser, error) {
	if len(src) > api.MaxText {
		return nil, api.ErrLong
	}
	rules, err := readText(src)
	if err != nil {
		return nil, err
	}
	if err := checkRules(rules); err != nil {
		return nil, err
	}
	known := setsOf(rules)
	if err := checkClashes(rules, known); err != nil {
		return nil, err
	}
	return &Parser{rules, known}, nil
}

// Rules: the names of the rules, with where they stand (P4).
func (p *Parser) Rules() func(yield func(string, int) bool) {
	return func(yield func(string, int) bool) {
		if p == nil {
			return
		}
		for _, r := range p.rules {
			if !yield(r.name, r.at) {
				return
			}
		}
	}
}

// First: with which words what a rule derives may begin (P5).
func (p *Parser) First(name string) (map[string]struct{}, error) {
	if !p.hasRule(name) {
		return nil, api.ErrRule
	}
	out := maps.Clone(p.sets.first[name])
	if p.sets.empty.has(name) {
		out.add("")
	}
	return out, nil
}

// Follow: which words may come behind it (P5).
func (p *Parser) Follow(name string) (map[string]struct{}, error) {
	if !p.hasRule(name) {
		return nil, api.ErrRule
	}
	return maps.Clone(p.sets.after[name]), nil
}

// hasRule: a parser that no Compile has made has none.
func (p *Parser) hasRule(name string) bool {
	if p == nil {
		return false
	}
	_, ok := p.sets.first[name]
	return ok
}

// Parse: the tree of an input (P6).
func (p *Parser) Parse(words func(yield func(string) bool)) (*Tree, error) { return nil, nil }

// Tree: of an input.
type Tree struct{}

// Root: its uppermost node (P6).
func (t *Tree) Root() api.Node { return nil }

// Walk: a tree's nodes, each ahead of those below it, with how deep they stand (P7).
func (t *Tree) Walk() func(yield func(int, api.Node) bool) {
	return func(yield func(int, api.Node) bool) {}
}

// Fold: a tree from below (P8).
func Fold[T any](t *Tree, leaf func(*api.Leaf) T, inner func(api.Node, []T) T) T {
	var none T
	return none
}
