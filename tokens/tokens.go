// Package tokens is what several layers do with lists of tokens.
package tokens

import (
	"slices"

	"oxbow/api"
)

// Clone is the tokens as new memory, their Sites too.
func Clone(l []api.Token) []api.Token {
	l = slices.Clone(l)
	for i, t := range l {
		l[i].Sites = slices.Clone(t.Sites)
	}
	return l
}

// Hash is whether a token is a Punct # or %:.
func Hash(t api.Token) bool {
	return t.Kind == api.Punct && (t.Text == "#" || t.Text == "%:")
}
