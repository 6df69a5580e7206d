package direct

import "sync"

// words is the words by their kinds; the kinds between that have none are empty.
var words = [...]string{
	If:      "if",
	Ifdef:   "ifdef",
	Ifndef:  "ifndef",
	Elif:    "elif",
	Else:    "else",
	Endif:   "endif",
	Include: "include",
	Define:  "define",
	Undef:   "undef",
	LineNo:  "line",
	Error:   "error",
	Pragma:  "pragma",
}

// kinds is the kinds by their words, made when somebody first asks.
var kinds struct {
	once sync.Once
	of   map[string]int
}

// kindOf is a word's kind; Unknown, if it is none.
func kindOf(word string) int {
	kinds.once.Do(makeKinds)
	kind, is := kinds.of[word]
	if !is {
		return Unknown
	}
	return kind
}

func makeKinds() {
	kinds.of = map[string]int{}
	for kind, word := range words {
		if word != "" {
			kinds.of[word] = kind
		}
	}
}
