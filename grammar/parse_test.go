package grammar_test

import (
	"errors"
	"slices"
	"strings"
	"testing"

	"predict/api"
	"predict/grammar"
	"predict/plain"
)

// asking: a parser, to be asked in plain data.
func asking(t *testing.T, src string) *plain.Parser {
	t.Helper()
	p, fault := plain.Compile(src)
	if p == nil {
		t.Fatalf("P3: Compile(%q): %+v", src, fault)
	}
	return p
}

// times: a word, so many times.
func times(n int, w string) []string { return slices.Repeat([]string{w}, n) }

// TestTrees: each kind of node, with its words, as plain writes them.
func TestTrees(t *testing.T) {
	for _, c := range []struct{ src, words, tree string }{
		// The document's own.
		{`s = "a" [ s ] "b" .`, "a a b b", "s 0-4 (row 0-4 ('a 0-1 (), maybe 1-3 (row 1-3 (s 1-3 (row 1-3 ('a 1-2 (), maybe 2-2 (), 'b 2-3 ())))), 'b 3-4 ()))"},
		{`s = [ "a" ] { "b" } .`, "b b", "s 0-2 (row 0-2 (maybe 0-0 (), many 0-2 (row 0-1 ('b 0-1 ()), row 1-2 ('b 1-2 ()))))"},
		{`s = "a" | "b" "c" .`, "b c", "s 0-2 (pick1 0-2 (row 0-2 ('b 0-1 (), 'c 1-2 ())))"},
		// A row of no part, of one, of several.
		{`s = .`, "", "s 0-0 (row 0-0 ())"},
		{`s = "a" .`, "a", "s 0-1 (row 0-1 ('a 0-1 ()))"},
		{`s = "a" "b" "a" .`, "a b a", "s 0-3 (row 0-3 ('a 0-1 (), 'b 1-2 (), 'a 2-3 ()))"},
		// A name.
		{`s = t . t = "a" .`, "a", "s 0-1 (row 0-1 (t 0-1 (row 0-1 ('a 0-1 ()))))"},
		{`s = "a" t "b" . t = .`, "a b", "s 0-2 (row 0-2 ('a 0-1 (), t 1-1 (row 1-1 ()), 'b 1-2 ()))"},
		{`s = t "b" t . t = "a" .`, "a b a", "s 0-3 (row 0-3 (t 0-1 (row 0-1 ('a 0-1 ())), 'b 1-2 (), t 2-3 (row 2-3 ('a 2-3 ()))))"},
		{`one = two . two = "a" [ one ] .`, "a a", "one 0-2 (row 0-2 (two 0-2 (row 0-2 ('a 0-1 (), maybe 1-2 (row 1-2 (one 1-2 (row 1-2 (two 1-2 (row 1-2 ('a 1-2 (), maybe 2-2 ()))))))))))"},
		// A choice: each row of it, the empty one, too; one within another.
		{`s = "a" | "b" | "c" .`, "a", "s 0-1 (pick0 0-1 (row 0-1 ('a 0-1 ())))"},
		{`s = "a" | "b" | "c" .`, "c", "s 0-1 (pick2 0-1 (row 0-1 ('c 0-1 ())))"},
		{`s = "a" | .`, "", "s 0-0 (pick1 0-0 (row 0-0 ()))"},
		{`s = | "a" .`, "", "s 0-0 (pick0 0-0 (row 0-0 ()))"},
		{`s = | "a" .`, "a", "s 0-1 (pick1 0-1 (row 0-1 ('a 0-1 ())))"},
		{`s = "x" ( "a" | t ) . t = "b" | [ "c" ] .`, "x", "s 0-1 (row 0-1 ('x 0-1 (), pick1 1-1 (row 1-1 (t 1-1 (pick1 1-1 (row 1-1 (maybe 1-1 ())))))))"},
		{`s = "x" ( "a" | t ) "d" . t = "b" | [ "c" ] .`, "x c d", "s 0-3 (row 0-3 ('x 0-1 (), pick1 1-2 (row 1-2 (t 1-2 (pick1 1-2 (row 1-2 (maybe 1-2 (row 1-2 ('c 1-2 ()))))))), 'd 2-3 ()))"},
		// An option: left out, and not.
		{`s = [ "a" ] .`, "", "s 0-0 (row 0-0 (maybe 0-0 ()))"},
		{`s = [ "a" ] .`, "a", "s 0-1 (row 0-1 (maybe 0-1 (row 0-1 ('a 0-1 ()))))"},
		{`s = "x" [ "a" | "b" "c" ] "y" .`, "x b c y", "s 0-4 (row 0-4 ('x 0-1 (), maybe 1-3 (pick1 1-3 (row 1-3 ('b 1-2 (), 'c 2-3 ()))), 'y 3-4 ()))"},
		{`s = "x" [ "a" | "b" "c" ] "y" .`, "x y", "s 0-2 (row 0-2 ('x 0-1 (), maybe 1-1 (), 'y 1-2 ()))"},
		{`s = [ "a" [ "b" ] ] .`, "a b", "s 0-2 (row 0-2 (maybe 0-2 (row 0-2 ('a 0-1 (), maybe 1-2 (row 1-2 ('b 1-2 ()))))))"},
		{`s = [ t ] "b" . t = "a" .`, "a b", "s 0-2 (row 0-2 (maybe 0-1 (row 0-1 (t 0-1 (row 0-1 ('a 0-1 ())))), 'b 1-2 ()))"},
		// A loop: of no item, of one, of several.
		{`s = { "a" } .`, "", "s 0-0 (row 0-0 (many 0-0 ()))"},
		{`s = { "a" } .`, "a", "s 0-1 (row 0-1 (many 0-1 (row 0-1 ('a 0-1 ()))))"},
		{`s = "x" { "a" "b" } "y" .`, "x a b a b y", "s 0-6 (row 0-6 ('x 0-1 (), many 1-5 (row 1-3 ('a 1-2 (), 'b 2-3 ()), row 3-5 ('a 3-4 (), 'b 4-5 ())), 'y 5-6 ()))"},
		{`s = { "a" | t } . t = "b" .`, "b a", "s 0-2 (row 0-2 (many 0-2 (pick1 0-1 (row 0-1 (t 0-1 (row 0-1 ('b 0-1 ())))), pick0 1-2 (row 1-2 ('a 1-2 ())))))"},
		{`s = { "a" { "b" } } .`, "a b b a", "s 0-4 (row 0-4 (many 0-4 (row 0-3 ('a 0-1 (), many 1-3 (row 1-2 ('b 1-2 ()), row 2-3 ('b 2-3 ()))), row 3-4 ('a 3-4 (), many 4-4 ()))))"},
		{`s = { "a" [ "b" ] } .`, "a a b", "s 0-3 (row 0-3 (many 0-3 (row 0-1 ('a 0-1 (), maybe 1-1 ()), row 1-3 ('a 1-2 (), maybe 2-3 (row 2-3 ('b 2-3 ()))))))"},
		// Round brackets: no node but that of what stands within.
		{`s = ( "a" ) .`, "a", "s 0-1 (row 0-1 (row 0-1 ('a 0-1 ())))"},
		{`s = ( ( ( "a" ) ) ) .`, "a", "s 0-1 (row 0-1 (row 0-1 (row 0-1 (row 0-1 ('a 0-1 ())))))"},
		{`s = ( ) "a" ( ) .`, "a", "s 0-1 (row 0-1 (row 0-0 (), 'a 0-1 (), row 1-1 ()))"},
		{`s = ( "a" | "b" ) ( "c" | ) .`, "b", "s 0-1 (row 0-1 (pick1 0-1 (row 0-1 ('b 0-1 ())), pick1 1-1 (row 1-1 ())))"},
		{`s = [ ( "a" | "b" ) ] .`, "b", "s 0-1 (row 0-1 (maybe 0-1 (row 0-1 (pick1 0-1 (row 0-1 ('b 0-1 ()))))))"},
		{`s = { ( "a" ) } .`, "a a", "s 0-2 (row 0-2 (many 0-2 (row 0-1 (row 0-1 ('a 0-1 ())), row 1-2 (row 1-2 ('a 1-2 ())))))"},
		// What is nothing in many ways.
		{`s = t [ "a" ] { "b" } ( "c" | ) . t = u u . u = .`, "", "s 0-0 (row 0-0 (t 0-0 (row 0-0 (u 0-0 (row 0-0 ()), u 0-0 (row 0-0 ()))), maybe 0-0 (), many 0-0 (), pick1 0-0 (row 0-0 ())))"},
		{`s = t [ "a" ] { "b" } "c" t . t = u u . u = .`, "c", "s 0-1 (row 0-1 (t 0-0 (row 0-0 (u 0-0 (row 0-0 ()), u 0-0 (row 0-0 ()))), maybe 0-0 (), many 0-0 (), 'c 0-1 (), t 1-1 (row 1-1 (u 1-1 (row 1-1 ()), u 1-1 (row 1-1 ())))))"},
		// Words as long and as odd as they can be.
		{`s = "abcdefgh" "=" "'" .`, "abcdefgh = '", "s 0-3 (row 0-3 ('abcdefgh 0-1 (), '= 1-2 (), '' 2-3 ()))"},
	} {
		words := strings.Fields(c.words)
		told := asking(t, c.src).Parse(words)
		if got := told.Tree.Text(); got != c.tree || told.F.What != 0 || told.Asked != len(words) {
			t.Errorf("P6: %q on %q: %s, %+v, %d asked; want %s", c.src, c.words, got, told.F, told.Asked, c.tree)
		}
	}
}

// What plain.Fault calls the errors of Parse.
const (
	tooLong   = 1
	cannot    = 11
	unknown   = 12
	endsEarly = 13
)

// TestWrongInputs: at which word, what could stand there ('$': the end), what the error unwraps to, and how many words were asked for.
func TestWrongInputs(t *testing.T) {
	const arms = `s = "if" e "then" s [ "else" s ] "fi" | "do" { s ";" } "od" | e . e = "x" { "+" y } . y = "y" | .`
	for _, c := range []struct {
		src, words string
		what, at   int
		want       string
		asked      int
	}{
		// The document's own.
		{`s = "a" [ s ] "b" .`, "a a b", endsEarly, 3, "b", 3},
		{`s = "a" [ s ] "b" .`, "a c b", unknown, 1, "a b", 2},
		{`s = [ "a" ] { "b" } "c" .`, "d", unknown, 0, "a b c", 1},
		{`s = "a" .`, "a a", cannot, 1, "$", 2},
		// The end where it cannot stand.
		{`s = "a" .`, "", endsEarly, 0, "a", 0},
		{`s = "a" "b" .`, "a", endsEarly, 1, "b", 1},
		{`s = { "a" } "b" .`, "", endsEarly, 0, "a b", 0},
		{`s = { "a" } "b" .`, "a a", endsEarly, 2, "a b", 2},
		{`s = "a" | "b" .`, "", endsEarly, 0, "a b", 0},
		{`s = { "a" "b" } .`, "a b a", endsEarly, 3, "b", 3},
		{`s = [ "a" "b" ] .`, "a", endsEarly, 1, "b", 1},
		// A word behind all.
		{`s = .`, "a", unknown, 0, "$", 1},
		{`s = .`, "s", unknown, 0, "$", 1},
		{`s = "a" "b" .`, "a b c d", unknown, 2, "$", 3},
		{`s = "a" "b" .`, "a b a b", cannot, 2, "$", 3},
		// All that may be left out between, and the end behind it.
		{`s = [ "a" ] { "b" } .`, "c", unknown, 0, "$ a b", 1},
		{`s = [ "a" ] { "b" } .`, "a a", cannot, 1, "$ b", 2},
		{`s = [ "a" ] { "b" } .`, "b a", cannot, 1, "$ b", 2},
		{`s = "x" t u v "y" . t = [ "c" ] . u = { "b" } . v = "a" | .`, "x z", unknown, 1, "a b c y", 2},
		{`s = "x" t u v "y" . t = [ "c" ] . u = { "b" } . v = "a" | .`, "x b c", cannot, 2, "a b y", 3},
		{`s = "x" t u v . t = [ "c" ] . u = { "b" } . v = "a" | .`, "x c x", cannot, 2, "$ a b", 3},
		{`s = ( ) ( ( ) "a" | [ "b" ] ) ( | "c" ) .`, "d", unknown, 0, "$ a b c", 1},
		{`s = { "a" [ "b" ] { "c" } } .`, "a d", unknown, 1, "$ a b c", 2},
		{`s = { "a" [ "b" ] { "c" } } "e" .`, "a c b", cannot, 2, "a c e", 3},
		{arms, "do x od", cannot, 2, "+ ;", 3},
		{arms, "do x +", endsEarly, 3, "+ ; y", 3},
		{arms, "if x then x + z", unknown, 5, "+ else fi y", 6},
		{arms, "if x then x else x else", cannot, 6, "+ fi", 7},
		{arms, "x ;", cannot, 1, "$ +", 2},
		// What could stand there in this input, not in all: behind t there is a, or b, or the end.
		{`s = "x" t "a" | "y" t "b" | "z" t . t = [ "c" ] .`, "x b", cannot, 1, "a c", 2},
		{`s = "x" t "a" | "y" t "b" | "z" t . t = [ "c" ] .`, "y a", cannot, 1, "b c", 2},
		{`s = "x" t "a" | "y" t "b" | "z" t . t = [ "c" ] .`, "z a", cannot, 1, "$ c", 2},
		{`s = "x" t "a" | "y" t "b" | "z" t . t = [ "c" ] .`, "x c b", cannot, 2, "a", 3},
		{`s = "x" t "a" | "y" t "b" | "z" t . t = [ "c" ] .`, "x", endsEarly, 1, "a c", 1},
		{`s = "x" t "a" | "y" t . t = "c" | .`, "x b", unknown, 1, "a c", 2},
		{`s = "a" [ s ] "b" .`, "a b b", cannot, 2, "$", 3},
		{`s = "a" [ s ] "b" .`, "a a b a", cannot, 3, "b", 4},
		// Rising by bytes.
		{`s = "b" | "B" | "10" | "9" | "~" | "ab" | "a" | "!" .`, "?", unknown, 0, "! 10 9 B a ab b ~", 1},
		// What is no word of a rule: a rule's name, a piece of a word, a longer one.
		{`s = t . t = "word" .`, "t", unknown, 0, "word", 1},
		{`s = t . t = "word" .`, "wor", unknown, 0, "word", 1},
		{`s = t . t = "word" .`, "words", unknown, 0, "word", 1},
		{`s = t . t = "word" .`, `"word"`, unknown, 0, "word", 1},
		{`s = t . t = "word" .`, "WORD", unknown, 0, "word", 1},
		{`s = t . t = "word" .`, strings.Repeat("word", 1000), unknown, 0, "word", 1},
		{`s = t . t = "word" .`, "\xff\x00", unknown, 0, "word", 1},
		// A word of another rule, and of one that stands in brackets.
		{`s = "a" t . t = { "b" [ ( "c" ) ] } .`, "a c", cannot, 1, "$ b", 2},
		{`s = "a" t . t = { "b" [ ( "c" ) ] } .`, "c", cannot, 0, "a", 1},
		{`s = "a" t . t = { "b" [ ( "c" ) ] } .`, "a b c c", cannot, 3, "$ b", 4},
	} {
		words := strings.Fields(c.words)
		word := ""
		if c.what != endsEarly {
			word = words[c.at]
		}
		told := asking(t, c.src).Parse(words)
		want := strings.Fields(strings.Replace(c.want, "$", "END", 1))
		if want[0] == "END" {
			want[0] = ""
		}
		f := told.F
		if told.Tree != nil || f.What != c.what || f.At != c.at || f.S != word || !slices.Equal(f.Want, want) || told.Asked != c.asked || told.Again {
			t.Errorf("P6: %q on %q: %+v; want fault %d at %d, %q, %d asked", c.src, c.words, told, c.what, c.at, want, c.asked)
		}
	}
}

// TestEmptyWord: it is a word that stands in no rule, even where the end could stand.
func TestEmptyWord(t *testing.T) {
	for _, c := range []struct {
		src   string
		words []string
		at    int
		want  []string
	}{
		{`s = .`, []string{""}, 0, []string{""}},
		{`s = "a" .`, []string{""}, 0, []string{"a"}},
		{`s = "a" .`, []string{"a", ""}, 1, []string{""}},
		{`s = { "a" } .`, []string{"a", "", "a"}, 1, []string{"", "a"}},
		{`s = "a" | .`, []string{"", ""}, 0, []string{"", "a"}},
	} {
		told := asking(t, c.src).Parse(c.words)
		f := told.F
		if told.Tree != nil || f.What != unknown || f.At != c.at || f.S != "" || !slices.Equal(f.Want, c.want) || told.Asked != c.at+1 || told.Again {
			t.Errorf("P6: %q on %q: %+v", c.src, c.words, told)
		}
	}
}

// TestUnwraps: to what an error does, and that it is of the type that the document names.
func TestUnwraps(t *testing.T) {
	p := compiled(t, `s = "a" [ "b" ] .`)
	for _, c := range []struct {
		words []string
		why   error
	}{
		{nil, api.ErrEnd},
		{[]string{"b"}, nil},
		{[]string{"a", "a"}, nil},
		{[]string{"a", "b", "b"}, nil},
		{[]string{"c"}, api.ErrUnknown},
		{[]string{"a", ""}, api.ErrUnknown},
		{[]string{"a", "b", "s"}, api.ErrUnknown},
	} {
		x, err := p.Parse(telling(c.words...))
		var e *api.InputError
		if x != nil || !errors.As(err, &e) || errors.Unwrap(e) != c.why {
			t.Errorf("P6: on %q: %v, %#v; want one that unwraps to %v", c.words, x, err, c.why)
		}
		for _, other := range []error{api.ErrLong, api.ErrEmpty, api.ErrMany, api.ErrRule, api.ErrEnd, api.ErrUnknown} {
			if errors.Is(err, other) != (other == c.why) {
				t.Errorf("P6: on %q: %v, of %v", c.words, err, other)
			}
		}
	}
}

// TestNoWords: a function that tells none, and none at all, are the same.
func TestNoWords(t *testing.T) {
	for _, c := range []struct{ src, tree, want string }{
		{`s = .`, "s 0-0 (row 0-0 ())", ""},
		{`s = { "a" } .`, "s 0-0 (row 0-0 (many 0-0 ()))", ""},
		{`s = "a" | t . t = [ "b" ] .`, "s 0-0 (pick1 0-0 (row 0-0 (t 0-0 (row 0-0 (maybe 0-0 ())))))", ""},
		{`s = "a" .`, "no node", "a"},
		{`s = { "a" } "b" .`, "no node", "a b"},
	} {
		p := asking(t, c.src)
		for _, told := range []plain.Told{p.Parse(nil), p.ParseNil()} {
			wrong := told.F.What == endsEarly && told.F.At == 0 && told.F.S == ""
			if told.Tree.Text() != c.tree || strings.Join(told.F.Want, " ") != c.want || wrong != (c.want != "") || told.Asked != 0 {
				t.Errorf("P6: %q on no words: %s, %+v", c.src, told.Tree.Text(), told)
			}
		}
	}
}

// TestManyWords: as many as an input may have, in each way that they may end; and one more, whatever it is.
func TestManyWords(t *testing.T) {
	full := times(api.MaxWords, "a")
	last := append(times(api.MaxWords-1, "a"), "b")
	for _, c := range []struct {
		src         string
		words       []string
		what, asked int
	}{
		{`s = { "a" } .`, full, 0, 60},
		{`s = { "a" } "b" .`, last, 0, 60},
		{`s = "a" [ s ] .`, full, 0, 60},
		{`s = { "a" } "b" .`, full, endsEarly, 60},
		{`s = { "a" } .`, last, unknown, 60},
		{`s = { "a" } [ "b" "c" ] .`, last, endsEarly, 60},
		{`s = { "a" } .`, append(full, "a"), tooLong, 61},
		{`s = { "a" } "b" .`, append(full, "a"), tooLong, 61},
		{`s = { "a" } "b" .`, append(full, "b"), tooLong, 61},
		{`s = { "a" } "b" .`, append(full, "c"), tooLong, 61},
		{`s = { "a" } .`, append(full, ""), tooLong, 61},
		{`s = { "a" } "b" .`, append(last, "b"), tooLong, 61},
		{`s = "a" [ s ] .`, append(full, "a"), tooLong, 61},
		{`s = { "a" } .`, times(1000, "a"), tooLong, 61},
		{`s = { "a" } .`, append(last, "a"), unknown, 60},
		{`s = "a" .`, times(1000, "a"), cannot, 2},
	} {
		told := asking(t, c.src).Parse(c.words)
		if (told.Tree != nil) != (c.what == 0) || told.F.What != c.what || told.Asked != c.asked || told.Again {
			t.Errorf("P6: %q on %d words, %q the last: %+v; want fault %d, %d asked", c.src, len(c.words), c.words[len(c.words)-1], told, c.what, c.asked)
		}
		if c.what == tooLong && (told.F.At != 0 || told.F.S != "" || told.F.Want != nil) {
			t.Errorf("P6: %q: %+v", c.src, told.F)
		}
	}
}

// TestWordsWithoutEnd: more are never asked for than can stand.
func TestWordsWithoutEnd(t *testing.T) {
	p := compiled(t, `s = { "a" } "b" .`)
	asked := 0
	x, err := p.Parse(func(yield func(string) bool) {
		for {
			asked++
			if !yield("a") {
				return
			}
		}
	})
	if x != nil || err != api.ErrLong || asked != api.MaxWords+1 {
		t.Errorf("P6: %v, %v, %d asked", x, err, asked)
	}
}

// TestNoGrammar: a parser that no Compile has made asks for no word.
func TestNoGrammar(t *testing.T) {
	for _, p := range []*grammar.Parser{nil, new(grammar.Parser)} {
		x, err := p.Parse(func(func(string) bool) { t.Error("words is called") })
		if x != nil || !errors.Is(err, api.ErrEmpty) {
			t.Errorf("P1: Parse by no grammar: %v, %v", x, err)
		}
	}
}
