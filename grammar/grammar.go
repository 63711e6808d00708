// Package grammar: grammars, and inputs that are parsed by them: see DOC.md.
package grammar

import (
	"maps"
	"sync"

	"predict/api"
)

// Parser: of a grammar. What it holds is never changed behind Compile, so that any number of calls may read it at a time.
type Parser struct {
	rules []rule
	sets  sets
}

// Compile: the parser of a grammar, or what is wrong with it (P2, P3).
func Compile(src string) (*Parser, error) {
	if len(src) > api.MaxText {
		return nil, api.ErrLong
	}
	rules, err := readText(src)
	if err != nil {
		return nil, err
	}
	if err := checkRules(rules); err != nil {
		return nil, err
	}
	known := setsOf(rules)
	if err := checkClashes(rules, known); err != nil {
		return nil, err
	}
	return &Parser{rules, known}, nil
}

// Rules: the names of the rules, with where they stand (P4).
func (p *Parser) Rules() func(yield func(string, int) bool) {
	return func(yield func(string, int) bool) {
		if p == nil || yield == nil {
			return
		}
		for _, r := range p.rules {
			if !yield(r.name, r.at) {
				return
			}
		}
	}
}

// First: with which words what a rule derives may begin (P5).
func (p *Parser) First(name string) (map[string]struct{}, error) {
	if !p.hasRule(name) {
		return nil, api.ErrRule
	}
	out := maps.Clone(p.sets.first[name])
	if p.sets.empty.has(name) {
		out.add("")
	}
	return out, nil
}

// Follow: which words may come behind it (P5).
func (p *Parser) Follow(name string) (map[string]struct{}, error) {
	if !p.hasRule(name) {
		return nil, api.ErrRule
	}
	return maps.Clone(p.sets.after[name]), nil
}

// hasRule: a parser that no Compile has made has none.
func (p *Parser) hasRule(name string) bool {
	if p == nil {
		return false
	}
	_, ok := p.sets.first[name]
	return ok
}

// Parse: the tree of an input (P6). A parser that no Compile has made has no rule to parse by.
func (p *Parser) Parse(words func(yield func(string) bool)) (*Tree, error) {
	if p == nil || len(p.rules) == 0 {
		return nil, api.ErrEmpty
	}
	in := &input{words: make(chan string), more: make(chan bool)}
	var root api.Node
	var err error
	var parser sync.WaitGroup
	parser.Go(func() {
		defer close(in.more)
		root, err = p.descend(in.words, in.more)
	})
	in.tellAll(words)
	parser.Wait()
	if err != nil {
		return nil, err
	}
	return &Tree{root}, nil
}
