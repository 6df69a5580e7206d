package direct

import (
	"reflect"
	"strings"
	"sync"
	"testing"

	"oxbow/api"
)

// unmade makes the kinds as they are ahead of the first call.
func unmade() {
	kinds = struct {
		once sync.Once
		of   map[string]int
	}{}
}

// others is texts that are no word.
func others() []string {
	list := []string{"", " ", "#", "x", "IF", " if", "if ", "ifx", "lineno", "null", "text", "unknown", "1", "\"if\"", "\x00"}
	for _, word := range words {
		if word != "" {
			list = append(list, word+word, word+"_", word[1:], strings.ToUpper(word))
		}
	}
	return list
}

// directive is the tokens of a line, with one behind the word.
func directive(word string) []api.Token {
	return []api.Token{{Kind: api.Punct, Text: "#"}, {Kind: api.Ident, Text: word}, {Kind: api.Ident, Text: "A"}}
}

func TestNamed(t *testing.T) {
	for kind, word := range words {
		if got, is := Named(word); word != "" && (got != kind || !is) {
			t.Errorf("Named(%q): got %d, %v, want %d", word, got, is, kind)
		}
	}
	for _, word := range others() {
		if got, is := Named(word); got != 0 || is {
			t.Errorf("Named(%q): got %d, %v, want none", word, got, is)
		}
	}
}

// TestFirstOfMany: whoever asks first, all of them are told the same.
func TestFirstOfMany(t *testing.T) {
	for range 200 {
		unmade()
		begin := make(chan int)
		var wait sync.WaitGroup
		for n := range 4 * len(words) {
			wait.Go(func() {
				kind := n % len(words)
				word := words[kind]
				want := kind
				if word == "" {
					want = 0
				}
				<-begin
				if got, is := Named(word); got != want || is != (word != "") {
					t.Errorf("Named(%q), of many at once: got %d, %v, want %d", word, got, is, want)
				}
			})
		}
		close(begin)
		wait.Wait()
		if t.Failed() {
			return
		}
	}
}

// TestMadeOnce: the kinds are made when they are asked for, and not again.
func TestMadeOnce(t *testing.T) {
	unmade()
	Named("x")
	kinds.once.Do(func() { t.Error("the kinds would be made again") })
	if len(kinds.of) != 12 {
		t.Errorf("%d words have kinds", len(kinds.of))
	}
}

// told is what the calls of the chapter tell of each word, and of what is none.
func told() (kinds []int, rests [][]api.Token, names []string) {
	for _, word := range append(others(), words[:]...) {
		kinds = append(kinds, Kind(directive(word)))
		rests = append(rests, Rest(directive(word)))
	}
	for kind := -2; kind < len(words)+2; kind++ {
		names = append(names, Word(kind))
	}
	return
}

// TestNoKindsAsked: what Kind, Rest and Word tell does not hang on the kinds: they make none, and none that stand turn an answer.
func TestNoKindsAsked(t *testing.T) {
	defer unmade()
	unmade()
	kindsTold, rests, names := told()
	if kinds.of != nil {
		t.Error("P7.1: the kinds were made by a call that does not ask for them")
	}
	kinds.once.Do(func() { kinds.of = map[string]int{"if": Pragma, "x": Define, "": Else} })
	if got, _ := Named("if"); got != Pragma {
		t.Errorf("Named: got %d of kinds that tell %d", got, Pragma)
	}
	kindsNow, restsNow, namesNow := told()
	if !reflect.DeepEqual(kindsNow, kindsTold) || !reflect.DeepEqual(restsNow, rests) || !reflect.DeepEqual(namesNow, names) {
		t.Error("P7.1: other kinds turn what is told")
	}
	for kind, word := range words {
		if word != "" && Kind(directive(word)) != kind {
			t.Errorf("P7.1: Kind of # %s: got %d, want %d", word, Kind(directive(word)), kind)
		}
	}
}
