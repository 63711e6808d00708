package grammar_test

import (
	"errors"
	"strconv"
	"strings"
	"testing"

	"predict/api"
	"predict/grammar"
	"predict/plain"
)

// verdict: what Compile says of a text; of a parser nothing but its kind.
type verdict struct {
	kind string
	at   int
	text string
}

var usable = verdict{kind: "parser"}

// strangeKind: begins the kind of an error that the document does not have.
const strangeKind = "none of the document's: "

func empty() verdict                       { return verdict{kind: "ErrEmpty"} }
func many() verdict                        { return verdict{kind: "ErrMany"} }
func syntax(at int) verdict                { return verdict{kind: "syntax", at: at} }
func twice(at int, name string) verdict    { return verdict{"twice", at, name} }
func none(at int, name string) verdict     { return verdict{"none", at, name} }
func useless(at int, name string) verdict  { return verdict{"useless", at, name} }
func clashing(at int, word string) verdict { return verdict{"clash", at, word} }

func (v verdict) String() string {
	return v.kind + " " + strconv.Itoa(v.at) + " " + strconv.Quote(v.text)
}

func kindOf(what api.Wrong) string {
	return map[api.Wrong]string{api.Twice: "twice", api.None: "none", api.Useless: "useless"}[what]
}

// verdictOf: by the error alone.
func verdictOf(err error) verdict {
	var s *api.SyntaxError
	var n *api.NameError
	var c *api.ClashError
	switch {
	case err == nil:
		return usable
	case errors.Is(err, api.ErrLong):
		return verdict{kind: "ErrLong"}
	case errors.Is(err, api.ErrEmpty):
		return empty()
	case errors.Is(err, api.ErrMany):
		return many()
	case errors.As(err, &s):
		return syntax(s.At)
	case errors.As(err, &n) && kindOf(n.What) != "":
		return verdict{kindOf(n.What), n.At, n.Name}
	case errors.As(err, &c):
		return clashing(c.At, c.Word)
	}
	return verdict{kind: strangeKind + err.Error()}
}

// judge: what Compile says of a text. There is a parser, or an error, and not both (P1).
func judge(t *testing.T, src string) verdict {
	t.Helper()
	p, err := grammar.Compile(src)
	if (p == nil) != (err != nil) {
		t.Errorf("P1: Compile(%q) = %v, %v", src, p, err)
	}
	return verdictOf(err)
}

// judged: a text, and what is to be said of it.
type judged struct {
	src  string
	want verdict
}

func expectAll(t *testing.T, cases []judged) {
	t.Helper()
	for _, c := range cases {
		if got := judge(t, c.src); got != c.want {
			t.Errorf("P3: Compile(%q): %v, want %v", c.src, got, c.want)
		}
	}
}

// manyRules: so many rules, the first of which names all others, each with a word of its own.
func manyRules(count int) string {
	src, names := "", ""
	for k := 1; k < count; k++ {
		n := "r" + strconv.Itoa(k)
		names += n + " "
		src += " " + n + `="` + n + `".`
	}
	return "s=" + names + "." + src
}

func TestHowManyRules(t *testing.T) {
	expectAll(t, []judged{
		{"", empty()}, {" ", empty()}, {"\n", empty()}, {" \n \n ", empty()}, {filled("", api.MaxText), empty()},
		{manyRules(1), usable}, {manyRules(2), usable}, {manyRules(api.MaxRules - 1), usable}, {manyRules(api.MaxRules), usable},
		{manyRules(api.MaxRules + 1), many()}, {manyRules(api.MaxRules + 2), many()}, {strings.Repeat("s=.", 133), many()},
		// More than MaxRules, and something else of P3: that they are too many is told.
		{strings.Repeat("s=.", api.MaxRules+1), many()},
		{manyRules(api.MaxRules) + " s = .", many()},
		{manyRules(api.MaxRules) + " t = x .", many()},
		{manyRules(api.MaxRules) + " t = t .", many()},
		{manyRules(api.MaxRules) + " t = | .", many()},
		// As many as there may be: the rest is looked at.
		{strings.Repeat("s=.", api.MaxRules), twice(3, "s")},
		// How it is written is told ahead of how many rules there are.
		{manyRules(api.MaxRules+1) + "?", syntax(len(manyRules(api.MaxRules + 1)))},
		{"?", syntax(0)},
	})
}

func TestTwice(t *testing.T) {
	expectAll(t, []judged{
		{"s = . s = .", twice(6, "s")},
		{"s = t . t = . t = x .", twice(14, "t")},
		{"s = t u . t = . u = . u = . t = .", twice(22, "u")},
		{"s = t u . t = . u = . t = . u = .", twice(22, "t")},
		{"s=.s=.s=.", twice(3, "s")},
		{"ab = abc . abc = . ab = .", twice(19, "ab")},
		{"\n s = .\ns = .", twice(8, "s")},
		// Ahead of whatever else there is with names and clashes, wherever that stands.
		{"s = x . s = .", twice(8, "s")},
		{"s = s . s = .", twice(8, "s")},
		{"s = | . s = .", twice(8, "s")},
		{"s = . t = . s = .", twice(12, "s")},
		// A name that is like another's beginning is another.
		{"s = s1 . s1 = s11 . s11 = .", usable},
	})
}

func TestNone(t *testing.T) {
	expectAll(t, []judged{
		{"s = t .", none(4, "t")},
		{"s = t u .", none(4, "t")},
		{"s = s u t .", none(6, "u")},
		{`s = ( "a" | [ u ] ) .`, none(14, "u")},
		{`s = "a" { "b" | ( "c" [ u ] ) } v .`, none(24, "u")},
		{`s = "a" | "b" v .`, none(14, "v")},
		{`s = t . t = u . v = w .`, none(12, "u")},
		{`s = ab . a = .`, none(4, "ab")},
		{`s = a . ab = .`, none(4, "a")},
		// Names and words are not the same.
		{`s = "t" t .`, none(8, "t")},
		{`s = "x" . t = x .`, none(14, "x")},
		// Ahead of what is useless and of clashes, wherever that stands.
		{`s = s . t = x .`, none(12, "x")},
		{`s = "a" . t = "b" . u = x .`, none(24, "x")},
		{`s = "a" | "a" x .`, none(14, "x")},
		// A rule may be used ahead of where it stands, and by itself.
		{`s = t . t = "a" .`, usable},
		{`s = "a" [ s ] "b" .`, usable},
	})
}

func TestUseless(t *testing.T) {
	expectAll(t, []judged{
		// Rules that derive no list.
		{`s = s .`, useless(0, "s")},
		{`s = "a" s .`, useless(0, "s")},
		{`s = s "a" | s "b" .`, useless(0, "s")},
		{`s = ( s ) .`, useless(0, "s")},
		{`s = ( "a" | ( "b" ) ) s .`, useless(0, "s")},
		{`s = t . t = s .`, useless(0, "s")},
		{`s = t . t = "a" t .`, useless(0, "s")},
		{`s = [ t ] . t = t .`, useless(12, "t")},
		{`s = { t } . t = "a" t .`, useless(12, "t")},
		{`s = "x" | t . t = u . u = t .`, useless(14, "t")},
		{`s = "x" | t . t = "y" | u . u = ( u ) "z" .`, useless(28, "u")},
		// An option and a loop derive the empty list, whatever stands within, and a row without parts does.
		{`s = "a" [ s ] .`, usable},
		{`s = { "a" s "b" } .`, usable},
		{`s = .`, usable},
		{`s = "a" s | .`, usable},
		{`s = ( "a" s | ) .`, usable},
		{`s = t . t = u . u = "a" .`, usable},
		// The last rule derives first, and the others by it.
		{`s = t t . t = u u . u = v v . v = w w . w = "a" .`, usable},
		// Rules that are not come to.
		{`s = "a" . t = "b" .`, useless(10, "t")},
		{`s = .t = .`, useless(5, "t")},
		{`s = "a" . t = s .`, useless(10, "t")},
		{`s = "a" . t = u . u = t .`, useless(10, "t")},
		{`s = "a" . t = t | "b" .`, useless(10, "t")},
		{`s = "a" . t = u . u = "b" .`, useless(10, "t")},
		{`s = v . t = "a" . u = t . v = "b" .`, useless(8, "t")},
		{`s = "t" . t = "b" .`, useless(10, "t")},
		// A rule is come to by another that is, however far and however deep.
		{`s = w . t = "a" . u = t . v = u . w = v .`, usable},
		{`s = { t } "a" . t = u . u = "b" .`, usable},
		{`s = "a" { "b" [ "c" ( "d" | t ) ] } . t = "e" .`, usable},
		// A rule names another, though by a row that derives nothing: it is come to; the first that is useless is told.
		{`s = "x" | t u . t = t . u = "y" .`, useless(16, "t")},
		{`s = "x" | u t . t = t . u = "y" .`, useless(16, "t")},
		// Of both kinds the first in the text.
		{`s = "x" | u . t = "y" . u = u .`, useless(14, "t")},
		{`s = "x" | u . u = u . t = "y" .`, useless(14, "u")},
		// Ahead of clashes, wherever they stand.
		{`s = "a" | "a" . t = .`, useless(16, "t")},
		{`s = [ [ t ] ] . t = t .`, useless(16, "t")},
	})
}

func TestClashes(t *testing.T) {
	expectAll(t, []judged{
		// The document's own.
		{`s = "a" | "a" .`, clashing(8, "a")},
		{`s = "a" | "b" | "b" | "a" .`, clashing(14, "b")},
		{`s = [ "a" ] "a" .`, clashing(4, "a")},
		{`s = [ [ "a" ] ] .`, clashing(4, "")},
		{`s = s "a" | "b" .`, clashing(10, "b")},
		{`s = t "a" . t = [ "a" ] .`, clashing(16, "a")},
		{`s = "if" s [ "else" s ] | "x" .`, clashing(11, "else")},
		{`s = t "a" . t = "b" | .`, usable},
		{`s = { t } . t = "a" [ "b" ] .`, usable},
		// At a '|': a word.
		{`s = "a" | "b" | "a" .`, clashing(14, "a")},
		{`s = "b" | "a" | ( "b" | "a" ) .`, clashing(14, "a")},
		{`s = ( "a" | "b" ) | "b" .`, clashing(18, "b")},
		{`s = [ "a" ] "b" | "a" .`, clashing(16, "a")},
		{`s = { "a" } "b" | "b" .`, clashing(16, "b")},
		{`s = t | "a" . t = u . u = "a" .`, clashing(6, "a")},
		{`s = t | "a" . t = u "a" . u = .`, clashing(6, "a")},
		{`s = "a" "b" | "a" "c" .`, clashing(12, "a")},
		// At a '|': the end, or a word that is behind.
		{`s = | .`, clashing(4, "")},
		{`s = "a" | | .`, clashing(10, "")},
		{`s = | "a" | .`, clashing(10, "")},
		{`s = "a" | .`, usable},
		{`s = | "a" .`, usable},
		{`s = ( | ) "a" .`, clashing(6, "a")},
		{`s = ( "a" | ) "a" .`, clashing(10, "a")},
		{`s = ( | "a" ) "a" .`, clashing(6, "a")},
		{`s = ( "a" | ) "b" .`, usable},
		{`s = ( "a" | ) [ "c" ] [ "a" ] .`, clashing(10, "a")},
		{`s = t "b" . t = "b" | .`, clashing(20, "b")},
		{`s = t s "a" | "b" . t = .`, clashing(12, "b")},
		{`s = ( "a" | t ) "b" . t = u . u = [ "c" ] .`, usable},
		{`s = ( "b" | t ) "b" . t = u . u = [ "c" ] .`, clashing(10, "b")},
		// At a '['.
		{`s = [ ] .`, clashing(4, "")},
		{`s = [ ] "a" .`, clashing(4, "a")},
		{`s = [ "a" ] "b" .`, usable},
		{`s = [ "a" ] [ "b" ] "a" .`, clashing(4, "a")},
		{`s = [ "a" ] [ "b" ] "b" .`, clashing(12, "b")},
		{`s = [ "a" | ] "b" .`, clashing(4, "b")},
		{`s = [ s ] "a" .`, clashing(4, "a")},
		{`s = "a" [ "b" s ] .`, usable},
		{`s = { t } . t = "a" [ "a" ] .`, clashing(20, "a")},
		{`s = { "a" [ "b" ] } "b" .`, clashing(10, "b")},
		{`s = t "b" . t = "a" u . u = [ "b" ] .`, clashing(28, "b")},
		// At a '{'.
		{`s = { "a" } "a" .`, clashing(4, "a")},
		{`s = { } .`, clashing(4, "")},
		{`s = { } "a" .`, clashing(4, "a")},
		{`s = { "a" } .`, usable},
		{`s = { "a" } "b" .`, usable},
		{`s = { { "a" } } .`, clashing(4, "")},
		{`s = { [ "a" ] } "b" .`, clashing(4, "b")},
		{`s = { "a" } { "b" } "c" .`, usable},
		{`s = { "a" } { "a" } .`, clashing(4, "a")},
		{`s = "x" { "a" } t . t = { "b" } "a" .`, clashing(8, "a")},
		{`s = { "a" { "b" } } .`, usable},
		{`s = { "a" { "a" } } .`, clashing(10, "a")},
		{`s = { "a" | "b" "c" } "d" .`, usable},
		// What is behind what stands in a loop is the loop's beginning, too.
		{`s = { "a" ( "b" | ) } .`, usable},
		{`s = { "b" ( "b" | ) } .`, clashing(16, "b")},
		{`s = { "a" t } . t = [ "a" ] .`, clashing(20, "a")},
		// Round brackets are no sign at which there may be a clash.
		{`s = ( ) .`, usable},
		{`s = ( ( "a" ) ( ) ) "a" .`, usable},
		{`s = ( "a" ) "a" .`, usable},
	})
}

// TestFirstClash: of several clashes the first sign in the text, whichever it is; of several words there the least, and the end is less than all.
func TestFirstClash(t *testing.T) {
	expectAll(t, []judged{
		{`s = ( "b" | "b" ) | "b" .`, clashing(10, "b")},
		{`s = "a" | ( "a" | "a" ) .`, clashing(8, "a")},
		{`s = "a" | "b" ( "c" | "c" ) | "a" .`, clashing(20, "c")},
		{`s = "x" | "y" [ "a" ] "a" | "x" .`, clashing(14, "a")},
		{`s = [ { "a" } "a" ] "a" .`, clashing(4, "a")},
		{`s = [ { "b" } "b" ] "a" .`, clashing(6, "b")},
		{`s = { [ "b" ] "b" "c" } "a" .`, clashing(6, "b")},
		{`s = t | u . t = "a" | "a" . u = "a" .`, clashing(6, "a")},
		{`s = t "x" . t = "a" [ "x" ] . `, clashing(20, "x")},
		{`s = u t . t = "a" | "a" . u = "b" | "b" .`, clashing(18, "a")},
		{`s = ( "d" | "c" | "b" | "a" ) | ( "b" | "c" | "d" | "a" ) .`, clashing(30, "a")},
		{`s = [ "d" | "c" | "b" ] ( "e" | "d" | "b" | "c" ) .`, clashing(4, "b")},
		{`s = { "z" | "ab" | "aa" } ( "z" | "aa" | "ab" ) .`, clashing(4, "aa")},
		{`s = [ "b" | "B" | "~" | "!" ] ( "b" | "B" | "~" | "!" ) .`, clashing(4, "!")},
		{`s = [ "a" | ] [ "!" ] .`, clashing(4, "")},
		{`s = "x" [ s ] [ "!" ] t . t = { "y" } .`, clashing(14, "!")},
		{`s = t "!" | t . t = | .`, clashing(20, "")},
	})
	// Not by chance: the same, each time it is asked.
	for range 100 {
		expectAll(t, []judged{{`s=["h"|"g"|"f"|"e"|"d"|"c"|"b"]("h"|"g"|"f"|"e"|"d"|"c"|"b").`, clashing(2, "b")}})
	}
}

// TestDeepClash: brackets within each other, as many as there may be.
func TestDeepClash(t *testing.T) {
	open, shut := deepText(api.MaxDepth)
	round, closed := strings.Repeat("(", api.MaxDepth-1), strings.Repeat(")", api.MaxDepth-1)
	expectAll(t, []judged{
		{"s = " + open + `"a"` + shut + " .", clashing(5, "")},
		{"s = " + round + `["a"]` + closed + ` "b" .`, usable},
		{"s = " + round + `["a"]` + closed + ` "a" .`, clashing(13, "a")},
		{"s = " + round + `{"a"}` + closed + ` .`, usable},
		{"s = " + round + `("a"|"a")` + closed + ` .`, clashing(17, "a")},
	})
}

// TestLongGrammars: texts as long as they may be, of which each step of the work is great, are answered all the same.
func TestLongGrammars(t *testing.T) {
	options := ""
	for c := byte('#'); len(options) < 360; c++ {
		options += `["` + string([]byte{c}) + `"]`
	}
	expectAll(t, []judged{{"s=" + options + ".", usable}, {"s=" + options + `"#".`, clashing(2, "#")}, {"s={" + options + "}.", clashing(2, "")}})
	nested := ""
	for len(nested) < 300 {
		nested += "{{{{{{{{{{t}}}}}}}}}}"
	}
	if got := judge(t, "s="+nested+".t=[s]."); got != clashing(2, "") {
		t.Errorf("P3: %v", got)
	}
	chain := ""
	for k := range api.MaxRules - 1 {
		chain += "r" + strconv.Itoa(k) + "=[\"x" + strconv.Itoa(k) + "\"]r" + strconv.Itoa(k+1) + "."
	}
	chain += "r" + strconv.Itoa(api.MaxRules-1) + "=[\"z\"]."
	if got := judge(t, chain); got != usable {
		t.Errorf("P3: %v", got)
	}
}

// TestErrorsAreNew (P1): what a caller changes in an error changes nothing of the next.
func TestErrorsAreNew(t *testing.T) {
	for range 3 {
		_, err := grammar.Compile("s = t .")
		var n *api.NameError
		if !errors.As(err, &n) || *n != (api.NameError{At: 4, Name: "t", What: api.None}) {
			t.Fatalf("P1: %#v", err)
		}
		*n = api.NameError{}
		_, err = grammar.Compile(`s = "a" | "a" .`)
		var c *api.ClashError
		if !errors.As(err, &c) || *c != (api.ClashError{At: 8, Word: "a"}) {
			t.Fatalf("P1: %#v", err)
		}
		*c = api.ClashError{}
	}
}

// TestUsableFromOutside: the same, as package plain asks it.
func TestUsableFromOutside(t *testing.T) {
	for _, f := range []struct {
		src      string
		what, at int
		s        string
	}{
		{"", 2, 0, ""}, {manyRules(api.MaxRules + 1), 3, 0, ""}, {"s = . s = .", 6, 6, "s"}, {"s = t .", 7, 4, "t"}, {"s = s .", 8, 0, "s"},
		{`s = "a" | "a" .`, 9, 8, "a"}, {`s = [ ] .`, 9, 4, ""}, {`s = .`, 0, 0, ""},
	} {
		p, got := plain.Compile(f.src)
		if (p != nil) != (f.what == 0) || got.What != f.what || got.At != f.at || got.S != f.s || got.Want != nil {
			t.Errorf("P3: plain.Compile(%q) = %v, %+v, want %d at %d %q", f.src, p, got, f.what, f.at, f.s)
		}
	}
}
