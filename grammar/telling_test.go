package grammar_test

import (
	"errors"
	"runtime"
	"slices"
	"strings"
	"sync"
	"testing"
	"time"

	"predict/api"
	"predict/grammar"
	"predict/plain"
)

// parses: whether an input has a tree.
func parses(p *grammar.Parser, words ...string) bool {
	x, err := p.Parse(telling(words...))
	return x != nil && err == nil
}

// noneLeft: that no goroutine is left but those that there were. One that has been joined may still be counted for a moment.
func noneLeft(t *testing.T, before int) {
	t.Helper()
	for range 2000 {
		if runtime.NumGoroutine() <= before {
			return
		}
		time.Sleep(5 * time.Millisecond)
	}
	t.Errorf("%d goroutines, and %d before", runtime.NumGoroutine(), before)
}

// ends: every way in which a parse can.
func ends() [][]string {
	return [][]string{nil, {"b"}, {"a", "a", "b"}, {"a"}, {"a", "c"}, {"b", "b"}, {""}, times(60, "a"), times(61, "a"), append(times(59, "a"), "b")}
}

// TestOneCall: words is called once, in whichever way the parse ends.
func TestOneCall(t *testing.T) {
	p := compiled(t, `s = { "a" } "b" .`)
	for _, words := range ends() {
		calls := 0
		p.Parse(func(yield func(string) bool) {
			calls++
			telling(words...)(yield)
		})
		if calls != 1 {
			t.Errorf("P6: on %q: words is called %d times", words, calls)
		}
	}
}

// TestGoroutinesEnd: none is left behind the answer, in whichever way the parse ends.
func TestGoroutinesEnd(t *testing.T) {
	p := compiled(t, `s = { "a" } "b" .`)
	before := runtime.NumGoroutine()
	for _, words := range ends() {
		for range 20 {
			p.Parse(telling(words...))
		}
		noneLeft(t, before)
	}
	p.Parse(nil)
	noneLeft(t, before)
}

// TestEachAnswer: yield says of each word whether another is asked for, before the next is told; behind a false it says false for good, and nothing that is told then counts.
func TestEachAnswer(t *testing.T) {
	for _, c := range []struct {
		src, words, answers string
		what                int
	}{
		{`s = "a" .`, "a", "+", 0},
		{`s = "a" .`, "a a a", "+--", cannot},
		{`s = "a" .`, "b a", "--", unknown},
		{`s = { "a" } "b" .`, "a a b", "+++", 0},
		{`s = { "a" } "b" .`, "a c a b", "+---", unknown},
		{`s = { "a" } "b" .`, "a b b b b", "++---", cannot},
		{`s = [ "a" ] .`, "b", "-", unknown},
		{`s = { "a" } .`, strings.Repeat("a ", 63), strings.Repeat("+", 60) + "---", tooLong},
	} {
		answers := ""
		_, err := compiled(t, c.src).Parse(func(yield func(string) bool) {
			for _, w := range strings.Fields(c.words) {
				if yield(w) {
					answers += "+"
				} else {
					answers += "-"
				}
			}
		})
		told := asking(t, c.src).Parse(strings.Fields(c.words))
		if answers != c.answers || told.F.What != c.what || (err != nil) != (c.what != 0) {
			t.Errorf("P6: %q on %q: answers %s, %v; want %s", c.src, c.words, answers, err, c.answers)
		}
	}
}

// TestYieldLater: a yield that is kept answers false behind the call, and changes nothing.
func TestYieldLater(t *testing.T) {
	p := compiled(t, `s = { "a" } "b" .`)
	for _, words := range ends() {
		var kept func(string) bool
		x, err := p.Parse(func(yield func(string) bool) {
			kept = yield
			telling(words...)(yield)
		})
		for range 3 {
			if kept("a") || kept("b") {
				t.Errorf("P6: on %q: another word is asked for behind the answer", words)
			}
		}
		if y, again := p.Parse(telling(words...)); (x == nil) != (y == nil) || (err == nil) != (again == nil) {
			t.Errorf("P6: on %q: %v, and then %v", words, err, again)
		}
	}
}

// TestYieldElsewhere: the words may be told by other goroutines: one, or many at a time.
func TestYieldElsewhere(t *testing.T) {
	p := compiled(t, `s = { "a" } .`)
	for _, n := range []int{1, 7, 60, 61, 200} {
		x, err := p.Parse(func(yield func(string) bool) {
			var wg sync.WaitGroup
			for range n {
				wg.Go(func() { yield("a") })
			}
			wg.Wait()
		})
		if n <= 60 && (err != nil || x == nil) || n > 60 && (x != nil || !errors.Is(err, api.ErrLong)) {
			t.Errorf("P6: %d words, told by as many goroutines: %v, %v", n, x, err)
		}
	}
}

// TestWordsPanic: the document leaves open what becomes of it; the panic is the caller's, and nothing hangs.
func TestWordsPanic(t *testing.T) {
	p := compiled(t, `s = { "a" } "b" .`)
	before := runtime.NumGoroutine()
	for n := range 5 {
		func() {
			defer func() {
				if r := recover(); r != "words" {
					t.Errorf("%v came of a panic in words", r)
				}
			}()
			p.Parse(func(yield func(string) bool) {
				telling([]string{"a", "a", "c", "a"}[:n]...)(yield)
				panic("words")
			})
		}()
	}
	noneLeft(t, before)
}

// TestWithinAnother: a parse ahead of each word of another, by the same parser, and what comes of both.
func TestWithinAnother(t *testing.T) {
	p := asking(t, `s = { "a" } "b" .`)
	for _, words := range ends() {
		for _, other := range ends() {
			outer, inner := p.Within(words, other)
			if alone := p.Parse(words); outer.Tree.Text() != alone.Tree.Text() || !sameFault(outer.F, alone.F) || outer.Asked != alone.Asked || outer.Again {
				t.Errorf("P1: on %q, and %q within: %+v, alone %+v", words, other, outer, alone)
			}
			if len(inner) != outer.Asked {
				t.Errorf("P1: on %q, and %q within: %d parses within", words, other, len(inner))
			}
			alone := p.Parse(other)
			for _, x := range inner {
				if x.Tree.Text() != alone.Tree.Text() || !sameFault(x.F, alone.F) || x.Asked != alone.Asked || x.Again {
					t.Errorf("P1: on %q, within %q: %+v, alone %+v", other, words, x, alone)
				}
			}
		}
	}
}

func sameFault(a, b plain.Fault) bool {
	return a.What == b.What && a.At == b.At && a.S == b.S && slices.Equal(a.Want, b.Want)
}

// TestDeepWithin: parses within each other, by one parser and another, in turn; the words of the innermost are told to all of them, the outermost first and the outermost last.
func TestDeepWithin(t *testing.T) {
	parsers := []*grammar.Parser{compiled(t, `s = { "a" } "b" .`), compiled(t, `s = "a" s | "b" .`)}
	var within func(deep int, yields []func(string) bool)
	right := 0
	within = func(deep int, yields []func(string) bool) {
		if deep == 0 {
			for _, w := range []string{"a", "b"} {
				for _, yield := range yields {
					yield(w)
				}
				slices.Reverse(yields)
			}
			return
		}
		x, err := parsers[deep%2].Parse(func(yield func(string) bool) { within(deep-1, append(yields, yield)) })
		if x != nil && err == nil {
			right++
		}
	}
	within(20, nil)
	if right != 20 {
		t.Errorf("P1: %d of 20 parses gave a tree", right)
	}
}

// TestManyParses: one parser by many goroutines at a time, each with words of its own.
func TestManyParses(t *testing.T) {
	p := compiled(t, `s = { "a" t } "b" . t = [ "c" ] | "d" s .`)
	var wg sync.WaitGroup
	for k := range 40 {
		wg.Go(func() {
			for n := range 50 {
				words := append(times((k+n)%50, "a"), "b")
				if !parses(p, words...) {
					t.Errorf("P1: no tree of %q", words)
				}
				if wrong := append(words, "b"); parses(p, wrong...) {
					t.Errorf("P1: a tree of %q", wrong)
				}
			}
		})
	}
	wg.Wait()
}
