package grammar_test

import (
	"errors"
	"regexp"
	"strings"
	"testing"

	"predict/api"
	"predict/grammar"
	"predict/plain"
)

// written: what P2 says of a text, as far as it is told by the place of a *SyntaxError: -1, if there is none.
type written struct {
	long bool
	at   int
	deep bool
}

var wellWritten = written{at: -1}

// ask: what Compile says of a text by P2. With an error there must be no parser (P1).
func ask(t *testing.T, src string) written {
	t.Helper()
	p, err := grammar.Compile(src)
	if err != nil && p != nil {
		t.Errorf("P1: Compile(%q): a parser beside the error %v", src, err)
	}
	if errors.Is(err, api.ErrLong) {
		return written{long: true, at: -1}
	}
	var s *api.SyntaxError
	if errors.As(err, &s) {
		return written{at: s.At, deep: s.Deep}
	}
	return wellWritten
}

func expect(t *testing.T, src string, want written) {
	t.Helper()
	if got := ask(t, src); got != want {
		t.Errorf("P2: Compile(%q): %+v, want %+v", src, got, want)
	}
}

// filled: a text with blanks behind, up to a number of bytes.
func filled(src string, size int) string {
	return src + strings.Repeat(" ", size-len(src))
}

func TestLongText(t *testing.T) {
	well, wrong := `s = "x" .`, `s = ? .`
	expect(t, filled(well, api.MaxText), wellWritten)
	expect(t, filled(well, api.MaxText+1), written{long: true, at: -1})
	expect(t, filled(well, 100*api.MaxText), written{long: true, at: -1})
	expect(t, filled(wrong, api.MaxText), written{at: 4})
	expect(t, filled(wrong, api.MaxText+1), written{long: true, at: -1})
	expect(t, strings.Repeat("(", api.MaxText+1), written{long: true, at: -1})
	expect(t, filled("s =", api.MaxText), written{at: api.MaxText})
}

func TestWellWritten(t *testing.T) {
	for _, src := range []string{
		"", " ", "\n", " \n \n",
		"s = .", "s=.", "\ns\n=\n.\n", "s = | .", "s = | | .", "s = () .", "s = [] {} ( ) .", "s = ( | ) .",
		`s = "a" .`, `s="a""b"t u"c".`, `s = "a" | "b" "c" | .`, `s = "a" [ s ] "b" .`,
		`s = .t = .u=.`, `s = ( "a" | [ u ] { "b" | } ) "c" .`,
		`s = "=" "." "|" "[" "]" "{" "}" "(" ")" .`, `s = "!" "~" "\" "'" .`, `s = "A" "0" "a1" .`,
		"a0 = z9 .", "a1234567 = abcdefgh .",
	} {
		expect(t, src, wellWritten)
	}
}

func TestNameAndWordLength(t *testing.T) {
	for size := 1; size <= api.MaxName+3; size++ {
		name, word := strings.Repeat("n", size), strings.Repeat("!", size)
		ofName, ofUse, ofWord := wellWritten, wellWritten, wellWritten
		if size > api.MaxName {
			ofName, ofUse, ofWord = written{at: 0}, written{at: 4}, written{at: 4}
		}
		expect(t, name+" = .", ofName)
		expect(t, "s = "+name+" .", ofUse)
		expect(t, `s = "`+word+`" .`, ofWord)
		expect(t, "s = n"+strings.Repeat("0", size-1)+".", ofUse)
	}
	expect(t, `s = abcdefgh"abcdefgh"abcdefgh.`, wellWritten)
	expect(t, `s = "abcdefgh"abcdefghi.`, written{at: 14})
}

func TestSyntaxPlaces(t *testing.T) {
	for _, f := range []struct {
		src string
		at  int
	}{
		// The document's own.
		{`s =`, 3}, {`s = "" .`, 4}, {`s = ( "a" ] .`, 10}, {`abcdefghi = .`, 0}, {`s = "a" . .`, 10},
		// The text ends too soon: its length, blanks behind and all.
		{`s`, 1}, {`s `, 2}, {"s = \n", 5}, {`s = "x"`, 7}, {`s = s s`, 7}, {`s = "a" |`, 9}, {`s = (`, 5}, {`s = ( "a" `, 10}, {`s = [ { ( ) }`, 13}, {`s = . t`, 7}, {`s = . t = `, 10},
		// A sign, name or word that cannot stand.
		{`=`, 0}, {`.`, 0}, {`|`, 0}, {`(`, 0}, {`"a"`, 0}, {` "a" = .`, 1}, {`s s = .`, 2}, {`s "a"`, 2}, {`s . `, 2}, {`s | `, 2}, {`s ( = .`, 2},
		{`s = = .`, 4}, {`s = "a" = .`, 8}, {`s = t = .`, 6}, {`s = ] .`, 4}, {`s = ) .`, 4}, {`s = } .`, 4}, {`s = "a" } .`, 8},
		{`s = ( } .`, 6}, {`s = [ ) .`, 6}, {`s = { ] .`, 6}, {`s = ( [ ) ] .`, 8}, {`s = [ "a" .`, 10}, {`s = ( = ) .`, 6}, {`s = ( ) ) .`, 8},
		{`s = . = .`, 6}, {`s = . "a" .`, 6}, {`s = . | .`, 6},
		// No token: the place where one would begin.
		{`S = .`, 0}, {`1 = .`, 0}, {`sT = .`, 1}, {"s\t= .", 1}, {"s =\r.", 3}, {`s = "a b" .`, 4}, {`s = "abcdefghi" .`, 4}, {"s = \"abc\n\" .", 4}, {`s = "a`, 4}, {`s = "`, 4}, {`s = "abcdefgh`, 4}, {`s = "a"" .`, 7}, {`s = """ .`, 4},
		{"s = \"\x80\" .", 4}, {"s = \"\x7f\" .", 4}, {"s = é .", 4}, {"s = \"é\" .", 4}, {"\x00", 0}, {"s = . \xff", 6}, {`s_ = .`, 1}, {`s = 'a' .`, 4}, {`s = "a", "b" .`, 7}, {`s = "a" ; .`, 8},
		// The first counts, of whichever kind it is.
		{`= ?`, 0}, {`s ? =`, 2}, {`s = ( ] ?`, 6}, {`s = ( ? ]`, 6}, {`s = ? abcdefghi`, 4},
	} {
		expect(t, f.src, written{at: f.at})
	}
}

// deepText: brackets of all kinds, so many within each other.
func deepText(depth int) (opening, closing string) {
	for k := range depth {
		opening += "([{"[k%3 : k%3+1]
		closing = ")]}"[k%3:k%3+1] + closing
	}
	return opening, closing
}

func TestDepth(t *testing.T) {
	open, shut := deepText(api.MaxDepth)
	expect(t, "s = "+open+shut+" .", wellWritten)
	expect(t, "s = "+open+`"a"`+shut+" "+open+shut+" | "+open+shut+". t = "+open+shut+".", wellWritten)
	for _, b := range []string{"()", "[]", "{}"} {
		opening, closing := strings.Repeat(b[:1], api.MaxDepth), strings.Repeat(b[1:], api.MaxDepth)
		expect(t, "s = "+opening+closing+" .", wellWritten)
		expect(t, "s = "+opening+b+closing+" .", written{at: 14, deep: true})
		expect(t, "s = "+open+" "+b+shut+" .", written{at: 15, deep: true})
	}
}

func TestDeepAmongOthers(t *testing.T) {
	open, shut := deepText(api.MaxDepth)
	// Told at once, whatever is behind it.
	for _, behind := range []string{"", "?", ".", "=", "(", ")", "abcdefghi", `"a`, shut + " ."} {
		expect(t, "s = "+open+"("+behind, written{at: 14, deep: true})
	}
	// What stands ahead and cannot stand is told instead.
	for _, f := range []struct {
		ahead string
		at    int
	}{{"s = ? ", 4}, {"s = = ", 4}, {"= ", 0}, {"s ", 2}, {"s = ) ", 4}, {"s = . ", 6}, {"s = ( ] ", 6}} {
		expect(t, f.ahead+open+"(", written{at: f.at})
	}
	expect(t, "s = "+open+" = (", written{at: 15})
	expect(t, "s = "+open+" ? (", written{at: 15})
	// A text that ends within MaxDepth brackets ends too soon, and is not too deep.
	expect(t, "s = "+open, written{at: 14})
	// A bracket in a word is none.
	expect(t, "s = "+open+`"(" "["`+shut+".", wellWritten)
	// Brackets that are closed are not open.
	expect(t, "s = "+strings.Repeat("( ) ", 3*api.MaxDepth)+".", wellWritten)
	expect(t, "s = "+open+shut[:1]+"["+"]"+shut[1:]+".", wellWritten)
	expect(t, "s = "+open+shut[:1]+"["+"{", written{at: 16, deep: true})
}

// TestEveryByte: each byte where a token would begin, within a word, within a name.
func TestEveryByte(t *testing.T) {
	for k := range 256 {
		c := byte(k)
		b := string([]byte{c})
		blank := c == ' ' || c == '\n'
		letter, digit := c >= 'a' && c <= 'z', c >= '0' && c <= '9'

		want := written{at: 4}
		if blank || letter || strings.Contains(".|", b) {
			want = wellWritten
		}
		if c == '.' {
			want = written{at: 6}
		}
		if strings.Contains("([{", b) {
			want = written{at: 6}
		}
		expect(t, "s = "+b+" .", want)

		want = written{at: 4}
		if c > 32 && c < 127 && c != '"' {
			want = wellWritten
		}
		expect(t, `s = "`+b+`" .`, want)
		expect(t, `s = "a`+b+`b" .`, withQuote(c, want))

		want = written{at: 1}
		switch {
		case letter || digit || blank:
			want = wellWritten
		case c == '=':
			want = written{at: 3}
		}
		expect(t, "s"+b+" = .", want)
	}
}

// withQuote: `"a"b" .` has a word, a name, and then a word that is not closed.
func withQuote(c byte, otherwise written) written {
	if c == '"' {
		return written{at: 8}
	}
	return otherwise
}

var oneToken = regexp.MustCompile("^(?:[a-z][a-z0-9]*|\"[!#-~]{1,8}\"|[=.|()\\[\\]{}])")

// slow: P2 told another way: tokens by a pattern, and a stack of what must still come.
func slow(src string) written {
	if len(src) > api.MaxText {
		return written{long: true, at: -1}
	}
	due := ""
	for at := 0; ; {
		for at < len(src) && strings.Contains(" \n", src[at:at+1]) {
			at++
		}
		if at == len(src) {
			if due != "" {
				return written{at: at}
			}
			return wellWritten
		}
		token := oneToken.FindString(src[at:])
		left, deep, ok := dueBehind(due, token)
		if !ok {
			return written{at: at, deep: deep}
		}
		due, at = left, at+len(token)
	}
}

// dueBehind: due is "" between rules, "=" behind a rule's name, and else "." and the brackets that must still close, the innermost last.
func dueBehind(due, token string) (left string, deep, ok bool) {
	name := token != "" && token[0] >= 'a' && token[0] <= 'z'
	switch {
	case token == "" || name && len(token) > api.MaxName:
		return "", false, false
	case due == "":
		return "=", false, name
	case due == "=":
		return ".", false, token == "="
	case name || token[0] == '"' || token == "|":
		return due, false, true
	case token == due[len(due)-1:]:
		return due[:len(due)-1], false, true
	}
	closing, found := map[string]string{"(": ")", "[": "]", "{": "}"}[token]
	deep = found && len(due) > api.MaxDepth
	return due + closing, deep, found && !deep
}

// TestAllShortTexts: every text of a few pieces, the pieces so chosen that each token, each end of one and each wrong one comes up next to each other.
func TestAllShortTexts(t *testing.T) {
	pieces := []string{"s", `"a"`, `"`, "=", ".", "|", "(", ")", "[", "]", "{", "}", " ", "?", "0"}
	open, _ := deepText(api.MaxDepth - 1)
	for _, ahead := range []string{"", "s=", "s=(", "s=" + open} {
		level := []string{ahead}
		for range 4 {
			var longer []string
			for _, src := range level {
				for _, p := range pieces {
					longer = append(longer, src+p)
				}
			}
			level = longer
			for _, src := range level {
				expect(t, src, slow(src))
			}
		}
	}
}

// TestPrefixCanStand: what is ahead of the place that is told can stand: that much of the text ends too soon, or is well written.
func TestPrefixCanStand(t *testing.T) {
	src := "s = \"a\" [ t ] { \"b\" | ( u ) }\n. t = \"if\" | .u=(s)."
	expect(t, src, wellWritten)
	for cut := range len(src) {
		for _, b := range []string{"", "?", "=", "]", "A"} {
			text := src[:cut] + b + src[cut:]
			got := ask(t, text)
			if got != slow(text) {
				t.Errorf("P2: Compile(%q): %+v, want %+v", text, got, slow(text))
			}
			if got.at < 0 {
				continue
			}
			if ahead := ask(t, text[:got.at]); ahead != wellWritten && ahead.at != got.at {
				t.Errorf("P2: Compile(%q): at %d, but ahead of it there is %+v", text, got.at, ahead)
			}
		}
	}
}

// FuzzCompile: any string at all (its seeds are tested each time).
func FuzzCompile(f *testing.F) {
	for _, src := range []string{"", "s = .", "s = \"a\" [ s ] \"b\" .", "s = ( \"a\" ] .", "\xff\xfe", "s = \x00", "((((((((((((", "s=((((((((((((", strings.Repeat("\"", 400), strings.Repeat("s=.", 133), strings.Repeat("é", 200), strings.Repeat("a", 1000)} {
		f.Add(src)
	}
	f.Fuzz(func(t *testing.T, src string) {
		expect(t, src, slow(src))
		if v := judge(t, src); strings.HasPrefix(v.kind, strangeKind) {
			t.Errorf("Compile(%q): %v", src, v)
		}
	})
}

// TestFromOutside: the same, as package plain asks it.
func TestFromOutside(t *testing.T) {
	for _, f := range []struct {
		src      string
		what, at int
	}{{filled("s = .", api.MaxText+1), 1, 0}, {"s =", 4, 3}, {"s = ((((((((((( .", 5, 14}} {
		p, got := plain.Compile(f.src)
		if p != nil || got.What != f.what || got.At != f.at || got.S != "" || got.Want != nil {
			t.Errorf("P2: plain.Compile(%q) = %v, %+v, want %d at %d", f.src, p, got, f.what, f.at)
		}
	}
}
