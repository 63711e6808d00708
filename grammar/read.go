package grammar

import "predict/api"

// reader: goes through a grammar's text by one token ahead.
type reader struct {
	src  string
	next token
	open int // brackets that are not closed yet
}

// checkText: the first fault of how a text is written, or nil.
func checkText(src string) error {
	r := &reader{src: src, next: tokenFrom(src, 0)}
	for r.next.kind != textEnd {
		if err := r.rule(); err != nil {
			return err
		}
	}
	return nil
}

func (r *reader) rule() error {
	if err := r.take(aName); err != nil {
		return err
	}
	if err := r.take('='); err != nil {
		return err
	}
	if err := r.expression(); err != nil {
		return err
	}
	return r.take('.')
}

func (r *reader) expression() error {
	for {
		if err := r.row(); err != nil {
			return err
		}
		if r.next.kind != '|' {
			return nil
		}
		r.advance()
	}
}

// row ends at what begins no part; whether that can stand there, the caller tells.
func (r *reader) row() error {
	for {
		switch r.next.kind {
		case aName, aWord:
			r.advance()
		case '(', '[', '{':
			if err := r.bracket(); err != nil {
				return err
			}
		default:
			return nil
		}
	}
}

func (r *reader) bracket() error {
	if r.open == api.MaxDepth {
		return &api.SyntaxError{At: r.next.at, Deep: true}
	}
	closing := closes(r.next.kind)
	r.open++
	r.advance()
	if err := r.expression(); err != nil {
		return err
	}
	r.open--
	return r.take(closing)
}

// closes: the bracket that closes one that opens.
func closes(opening kind) kind {
	switch opening {
	case '(':
		return ')'
	case '[':
		return ']'
	}
	return '}'
}

// take goes on behind the next token, if it is of that kind. The text's end has its length as its place: so a text that ends too soon needs no care of its own.
func (r *reader) take(k kind) error {
	if r.next.kind != k {
		return &api.SyntaxError{At: r.next.at}
	}
	r.advance()
	return nil
}

func (r *reader) advance() { r.next = tokenFrom(r.src, r.next.to) }
