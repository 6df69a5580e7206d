package direct

import (
	"sync"
	"testing"

	"oxbow/api"
)

// unmade makes the kinds as they are ahead of the first call.
func unmade() {
	kinds = struct {
		once sync.Once
		of   map[string]int
	}{}
}

// TestFirstOfMany: whoever asks first, all of them are told the same.
func TestFirstOfMany(t *testing.T) {
	for range 200 {
		unmade()
		begin := make(chan int)
		var wait sync.WaitGroup
		for n := range 4 * len(words) {
			wait.Go(func() {
				kind := n % len(words)
				want, word := kind, words[kind]
				if word == "" {
					want, word = Unknown, "none"
				}
				<-begin
				l := []api.Token{{Kind: api.Punct, Text: "#"}, {Kind: api.Ident, Text: word}, {Kind: api.Ident}}
				if got, rest := Kind(l), Rest(l); got != want || len(rest) != 1 {
					t.Errorf("P7.1: Kind of # %s, of many at once: got %d, want %d; Rest: %d tokens", word, got, want, len(rest))
				}
			})
		}
		close(begin)
		wait.Wait()
		if t.Failed() {
			return
		}
	}
}

// TestMadeOnce: the kinds are made when they are asked for, and not again.
func TestMadeOnce(t *testing.T) {
	unmade()
	hash := api.Token{Kind: api.Punct, Text: "#"}
	for _, l := range [][]api.Token{nil, {hash}, {hash, hash}, {{Kind: api.Ident, Text: "if"}}} {
		Kind(l)
		Rest(l)
	}
	Word(If)
	if kinds.of != nil {
		t.Error("the kinds are made, and nobody asked for a word's")
	}
	Kind([]api.Token{hash, {Kind: api.Ident, Text: "x"}})
	kinds.once.Do(func() { t.Error("the kinds would be made again") })
	if len(kinds.of) != 12 {
		t.Errorf("%d words have kinds", len(kinds.of))
	}
}
