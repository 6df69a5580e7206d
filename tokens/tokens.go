// Package tokens is what several layers do with lists of tokens.
package tokens

import (
	"slices"

	"oxbow/api"
)

// Clone is the tokens as new memory, their Sites too.
func Clone(l []api.Token) []api.Token {
	l = slices.Clone(l)
	for i, t := range l {
		l[i].Sites = slices.Clone(t.Sites)
	}
	return l
}

// Punct is whether a token is a Punct of that Text.
func Punct(t api.Token, text string) bool {
	return t.Kind == api.Punct && t.Text == text
}

// Hash is whether a token is a Punct # or %:.
func Hash(t api.Token) bool {
	return Punct(t, "#") || Punct(t, "%:")
}

// Paste is whether a token is a Punct ## or %:%:.
func Paste(t api.Token) bool {
	return Punct(t, "##") || Punct(t, "%:%:")
}
