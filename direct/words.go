package direct

import "sync"

// words is the words by their kinds; the kinds between that have none are empty.
var words = [...]string{
	If:      "if",
	Ifdef:   "ifdef",
	Ifndef:  "ifndef",
	Elif:    "elif",
	Else:    "else",
	Endif:   "endif",
	Include: "include",
	Define:  "define",
	Undef:   "undef",
	LineNo:  "line",
	Error:   "error",
	Pragma:  "pragma",
}

// kindOf is a word's kind; Unknown, if it is none. It goes through the words, and asks no map, so what a line's kind is hangs on nothing that is made while the program runs.
func kindOf(word string) int {
	for kind, named := range words {
		if named == word && named != "" {
			return kind
		}
	}
	return Unknown
}

// kinds is the kinds by their words, made when somebody first asks Named.
var kinds struct {
	once sync.Once
	of   map[string]int
}

// Named is the kind that has a word, and whether one has.
func Named(word string) (int, bool) {
	kinds.once.Do(makeKinds)
	kind, is := kinds.of[word]
	return kind, is
}

func makeKinds() {
	kinds.of = map[string]int{}
	for kind, word := range words {
		if word != "" {
			kinds.of[word] = kind
		}
	}
}
