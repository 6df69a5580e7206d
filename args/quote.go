package args

import (
	"slices"
	"strings"

	"oxbow/api"
	"oxbow/lex"
)

// Stringize is tokens as a string.
func Stringize(l []api.Token) string {
	l = slices.Clone(l)
	for i, t := range l {
		if t.Kind == api.String || t.Kind == api.Char {
			l[i].Text = escaped(t.Text)
		}
	}
	return `"` + lex.Text(l) + `"`
}

// Quoted is a text as a string.
func Quoted(s string) string {
	return `"` + escaped(s) + `"`
}

// Unquote is a string as a text.
func Unquote(text string) (string, bool) {
	t, ok := lex.One(text)
	if !ok || t.Kind != api.String {
		return "", false
	}
	first := strings.IndexByte(text, '"')
	return plain(text[first+1 : len(text)-1]), true
}

// escaped is a text with a \ ahead of each double quote and each \.
func escaped(s string) string {
	var text strings.Builder
	for i := range len(s) {
		if special(s[i]) {
			text.WriteByte('\\')
		}
		text.WriteByte(s[i])
	}
	return text.String()
}

// plain is a text without the \ that escaped puts in. One that is left out takes what is behind it along, so that this is not left out, too.
func plain(s string) string {
	var text strings.Builder
	for i := 0; i < len(s); i++ {
		if s[i] == '\\' && i+1 < len(s) && special(s[i+1]) {
			i++
		}
		text.WriteByte(s[i])
	}
	return text.String()
}

// special is whether a character has a \ ahead in a string.
func special(c byte) bool {
	return c == '"' || c == '\\'
}
