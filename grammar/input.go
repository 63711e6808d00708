package grammar

import "sync"

// input: what goes between the function that tells the words and the parser. Each side closes its channel when it has no more to say: so the end of the words comes to the parser as a closed channel, and to yield, as false, that no more is wanted.
type input struct {
	words chan string // to the parser
	more  chan bool   // from it, behind each word

	// A function may hand its yield on to goroutines, or keep it: so whether all is over is asked and set under a lock.
	lock sync.Mutex
	over bool
}

// tellAll: words is called here, not in the parser's goroutine, and ranged over by no loop: behind a false it may go on telling. The parser comes to its end even if words panics.
func (in *input) tellAll(words func(yield func(string) bool)) {
	defer in.end()
	if words != nil {
		words(in.tell)
	}
}

// tell: whether another word is asked for behind this one.
func (in *input) tell(w string) bool {
	in.lock.Lock()
	defer in.lock.Unlock()
	if in.over {
		return false
	}
	in.words <- w
	in.over = !<-in.more
	return !in.over
}

func (in *input) end() {
	in.lock.Lock()
	defer in.lock.Unlock()
	in.over = true
	close(in.words)
}
