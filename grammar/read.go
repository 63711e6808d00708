package grammar

import (
	"strings"

	"predict/api"
)

// reader: goes through a grammar's text by one token ahead.
type reader struct {
	src  string
	next token
	open int // brackets that are not closed yet
}

// readText: the rules of a text, or the first fault of how it is written.
func readText(src string) ([]rule, error) {
	r := &reader{src: src, next: tokenFrom(src, 0)}
	var rules []rule
	for r.next.kind != textEnd {
		one, err := r.rule()
		if err != nil {
			return nil, err
		}
		rules = append(rules, one)
	}
	return rules, nil
}

func (r *reader) rule() (rule, error) {
	one := rule{name: r.text(), at: r.next.at}
	if err := r.take(aName); err != nil {
		return rule{}, err
	}
	if err := r.take('='); err != nil {
		return rule{}, err
	}
	body, err := r.expression()
	if err != nil {
		return rule{}, err
	}
	one.body = body
	return one, r.take('.')
}

func (r *reader) expression() (expression, error) {
	var rows expression
	sign := 0
	for {
		parts, err := r.row()
		if err != nil {
			return nil, err
		}
		rows = append(rows, row{sign, parts})
		if r.next.kind != '|' {
			return rows, nil
		}
		sign = r.next.at
		r.advance()
	}
}

// row ends at what begins no part; whether that can stand there, the caller tells.
func (r *reader) row() ([]part, error) {
	var parts []part
	for {
		switch r.next.kind {
		case aName:
			parts = append(parts, &name{text: r.text(), at: r.next.at})
			r.advance()
		case aWord:
			parts = append(parts, &word{text: strings.Trim(r.text(), `"`)})
			r.advance()
		case '(', '[', '{':
			p, err := r.bracket()
			if err != nil {
				return nil, err
			}
			parts = append(parts, p)
		default:
			return parts, nil
		}
	}
}

func (r *reader) bracket() (part, error) {
	opening := r.next
	if r.open == api.MaxDepth {
		return nil, &api.SyntaxError{At: opening.at, Deep: true}
	}
	r.open++
	r.advance()
	in, err := r.expression()
	if err != nil {
		return nil, err
	}
	r.open--
	closing, p := bracketed(opening.kind, bracket{opening.at, in})
	if err := r.take(closing); err != nil {
		return nil, err
	}
	return p, nil
}

// bracketed: the sign that closes a bracket, and the part that it makes.
func bracketed(opening kind, b bracket) (closing kind, p part) {
	switch opening {
	case '(':
		return ')', &group{b}
	case '[':
		return ']', &option{b}
	}
	return '}', &loop{b}
}

// take goes on behind the next token, if it is of that kind. The text's end has its length as its place: so a text that ends too soon needs no care of its own.
func (r *reader) take(k kind) error {
	if r.next.kind != k {
		return &api.SyntaxError{At: r.next.at}
	}
	r.advance()
	return nil
}

func (r *reader) advance() { r.next = tokenFrom(r.src, r.next.to) }

// text: a copy of the next token, so that a parser does not hold on to the caller's text.
func (r *reader) text() string { return strings.Clone(r.src[r.next.at:r.next.to]) }
