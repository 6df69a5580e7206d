package lex

import (
	"strings"

	"oxbow/api"
)

// longest is how many characters a Punct has at most.
const longest = 4

// token is the kind of the token at the walk's place, and where it ends.
func (w *walk) token() (kind, end int) {
	if kind, end = w.constant(); end > 0 {
		return kind, end
	}
	rest := w.chars[w.at:]
	switch {
	case letter(rest[0]):
		return api.Ident, w.at + lengthOf(api.Ident, rest)
	case digit(rest[0]), rest[0] == '.' && digit(rest[1]):
		return api.Number, w.at + lengthOf(api.Number, rest)
	}
	if n := punctLen(rest); n > 0 {
		return api.Punct, w.at + n
	}
	return api.Other, w.at + 1
}

// constant is as token, of a string or character constant; the end is 0, if there is none.
func (w *walk) constant() (kind, end int) {
	quote := w.at + lettersAhead(w.chars[w.at:])
	switch w.chars[quote] {
	case '"':
		return api.String, w.closed(quote, 0)
	case '\'':
		return api.Char, w.closed(quote, 1)
	}
	return 0, 0
}

// closed is the place behind the quote that ends this one, of a sort; 0, if none does. One that does not end has passed over each later one of its sort on its line as one that a \ takes along, and what stood behind that it went through as the later one would: that does not end either, and need not be looked at.
func (w *walk) closed(quote, sort int) int {
	if quote < w.unended[sort] {
		return 0
	}
	taken := false
	at := quote + 1
	for ; w.chars[at] != '\n'; at++ {
		switch {
		case taken:
			taken = false
		case w.chars[at] == '\\':
			taken = true
		case w.chars[at] == w.chars[quote]:
			return at + 1
		}
	}
	w.unended[sort] = at
	return 0
}

// endless is whether a token is a quote that does not end, by its kind and its first character: no other quote stands alone.
func endless(kind int, first byte) bool {
	return kind == api.Other && (first == '"' || first == '\'')
}

// lettersAhead is how many letters belong to a quote that is right behind them.
func lettersAhead(rest string) int {
	switch {
	case strings.HasPrefix(rest, `u8"`):
		return 2
	case (rest[0] == 'L' || rest[0] == 'u' || rest[0] == 'U') && (rest[1] == '"' || rest[1] == '\''):
		return 1
	}
	return 0
}

// lengthOf is how many characters a name or a number has.
func lengthOf(kind int, rest string) int {
	n := 1
	for goesOn(kind, rest[n-1], rest[n]) {
		n++
	}
	return n
}

// goesOn is whether a character goes on with a token of a Kind, behind what it has ahead of it. Only names and numbers are told of.
func goesOn(kind int, ahead, c byte) bool {
	switch kind {
	case api.Ident:
		return letter(c) || digit(c)
	case api.Number:
		return letter(c) || digit(c) || c == '.' || signed(ahead, c)
	}
	return false
}

// signed is whether a sign goes on with a number, behind what the number has ahead of it.
func signed(ahead, sign byte) bool {
	return strings.IndexByte("eEpP", ahead) >= 0 && (sign == '+' || sign == '-')
}

func punctLen(rest string) int {
	for n := min(longest, len(rest)); n > 0; n-- {
		if isPunct(rest[:n]) {
			return n
		}
	}
	return 0
}

func isPunct(text string) bool {
	switch text {
	case "[", "]", "(", ")", "{", "}", ".", "->", "++", "--", "&", "*", "+", "-", "~", "!", "/", "%",
		"<<", ">>", "<", ">", "<=", ">=", "==", "!=", "^", "|", "&&", "||", "?", ":", ";", "...",
		"=", "*=", "/=", "%=", "+=", "-=", "<<=", ">>=", "&=", "^=", "|=", ",", "#", "##",
		"<:", ":>", "<%", "%>", "%:", "%:%:":
		return true
	}
	return false
}

func white(c byte) bool {
	return c == ' ' || c == '\t' || c == '\v' || c == '\f' || c == '\r'
}

func letter(c byte) bool {
	return 'a' <= c && c <= 'z' || 'A' <= c && c <= 'Z' || c == '_'
}

func digit(c byte) bool {
	return '0' <= c && c <= '9'
}
