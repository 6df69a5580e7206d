package lex

import (
	"strings"

	"oxbow/api"
	"oxbow/phase"
)

// The states of a walk.
const (
	between = iota // of what begins at its place nothing is known yet
	atToken
	atLineEnd // a byte 10 that is in no comment
	atBlank   // white space
	inRemark  // from // on
	inComment // from /* on
)

// walk goes over the characters of a text.
type walk struct {
	file  string
	size  int          // of the text
	runes []phase.Rune // where in the text the characters are
	chars string       // the characters; the last one is a byte 10, so nothing but a comment goes up to the end

	at    int
	state int
	began int // where the state but between did

	from  int  // of the line
	space bool // white space or a comment is right ahead, on the line
	toks  []api.Token
	lines []Line
	diags []api.Diag

	unended [2]int // of each sort of quote: none ahead of this place has an end
}

func over(file, text string) *walk {
	runes := phase.Chars(text)
	chars := make([]byte, len(runes))
	for i, r := range runes {
		chars[i] = r.C
	}
	return &walk{file: strings.Clone(file), size: len(text), runes: runes, chars: string(chars)}
}

// begins is the state that a walk is in where the rest of its characters is this one.
func begins(rest string) int {
	switch {
	case rest[0] == '\n':
		return atLineEnd
	case white(rest[0]):
		return atBlank
	case strings.HasPrefix(rest, "//"):
		return inRemark
	case strings.HasPrefix(rest, "/*"):
		return inComment
	}
	return atToken
}

func (w *walk) step() {
	rest := w.chars[w.at:]
	switch w.state {
	case between:
		w.state, w.began = begins(rest), w.at
	case atToken:
		w.take()
		w.state = between
	case atLineEnd:
		w.at++
		w.endLine(false)
		w.state = between
	case atBlank:
		w.pass(1)
	case inRemark:
		if rest[0] == '\n' {
			w.pass(0)
		} else {
			w.at++
		}
	case inComment:
		// The star that begins one does not end it, too.
		if w.at >= w.began+len("/*") && strings.HasPrefix(rest, "*/") {
			w.pass(len("*/"))
		} else {
			w.at++
		}
	}
}

// pass is the end of white space or a comment, that has some more characters.
func (w *walk) pass(more int) {
	w.at += more
	w.space = true
	w.state = between
}

// take is a token's.
func (w *walk) take() {
	kind, end := w.token()
	if endless(kind, w.chars[w.at]) {
		w.tell(api.DQuote, w.at, end)
	}
	w.toks = append(w.toks, api.Token{Kind: kind, Text: w.chars[w.at:end], Space: w.space, Span: w.span(w.at, end)})
	w.space = false
	w.at = end
}

// endLine ends the line. What stands behind the last one's byte 10 is that line's.
func (w *walk) endLine(open bool) {
	to := w.size
	if w.at < len(w.runes) {
		to = w.runes[w.at-1].To
	}
	w.lines = append(w.lines, Line{Toks: w.toks, From: w.from, To: to, Open: open})
	w.from, w.space, w.toks = to, false, nil
}

func (w *walk) tell(code, from, end int) {
	w.diags = append(w.diags, api.Diag{Code: code, Span: w.span(from, end)})
}

// span is where in the text some characters, one at least, are.
func (w *walk) span(from, end int) api.Span {
	return api.Span{File: w.file, From: w.runes[from].From, To: w.runes[end-1].To}
}
