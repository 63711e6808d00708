package grammar

import "predict/api"

// kind: what a token is. A sign is told by its own byte, so that no second list of signs is needed.
type kind byte

const (
	textEnd kind = 0
	noToken kind = 1
	aName   kind = 'a'
	aWord   kind = '"'
)

// token: the bytes of a text from at up to, and without, to.
type token struct {
	kind   kind
	at, to int
}

// tokenFrom: the first token at a place or behind it.
func tokenFrom(src string, from int) token {
	at := skipBlanks(src, from)
	if at == len(src) {
		return token{textEnd, at, at}
	}
	switch c := src[at]; {
	case isLetter(c):
		return nameAt(src, at)
	case c == '"':
		return wordAt(src, at)
	case isSign(c):
		return token{kind(c), at, at + 1}
	}
	return token{noToken, at, at}
}

func skipBlanks(src string, from int) int {
	for from < len(src) && (src[from] == ' ' || src[from] == '\n') {
		from++
	}
	return from
}

// nameAt goes beyond MaxName, too: the longest counts, so a long name is not two short ones.
func nameAt(src string, at int) token {
	to := at + 1
	for to < len(src) && (isLetter(src[to]) || isDigit(src[to])) {
		to++
	}
	if to-at > api.MaxName {
		return token{noToken, at, at}
	}
	return token{aName, at, to}
}

func wordAt(src string, at int) token {
	to := at + 1
	for to < len(src) && standsInWord(src[to]) {
		to++
	}
	size := to - at - 1
	closed := to < len(src) && src[to] == '"'
	if !closed || size < 1 || size > api.MaxName {
		return token{noToken, at, at}
	}
	return token{aWord, at, to + 1}
}

func isLetter(c byte) bool { return 'a' <= c && c <= 'z' }

func isDigit(c byte) bool { return '0' <= c && c <= '9' }

func standsInWord(c byte) bool { return 33 <= c && c <= 126 && c != '"' }

func isSign(c byte) bool {
	switch c {
	case '=', '.', '|', '[', ']', '{', '}', '(', ')':
		return true
	}
	return false
}
