// Package rope is long texts: see DOC.md, chapter 1.
package rope

import (
	"strings"

	"oxbow/api"
)

// Rope is a text. An edit makes another one, that shares with the old one what it left alone.
type Rope struct {
	root *node
}

// New is one of a text.
func New(text string) (*Rope, api.Errno) {
	if len(text) > api.MaxFile {
		return nil, api.ErrBig
	}
	return &Rope{root: grow(text)}, api.OK
}

// Len is how many bytes.
func (r *Rope) Len() int {
	return r.top().length()
}

// Text is all of it.
func (r *Rope) Text() string {
	return r.piece(0, r.Len())
}

// Slice is some of it.
func (r *Rope) Slice(from, to int) (string, api.Errno) {
	if !r.spans(from, to) {
		return "", api.ErrArg
	}
	return r.piece(from, to), api.OK
}

// Insert puts some in.
func (r *Rope) Insert(at int, text string) (*Rope, api.Errno) {
	if !r.spans(at, at) {
		return nil, api.ErrArg
	}
	if len(text) > api.MaxFile-r.Len() {
		return nil, api.ErrBig
	}
	return r.replace(at, at, text), api.OK
}

// Delete takes some out.
func (r *Rope) Delete(from, to int) (*Rope, api.Errno) {
	if !r.spans(from, to) {
		return nil, api.ErrArg
	}
	return r.replace(from, to, ""), api.OK
}

// Lines is how many lines.
func (r *Rope) Lines() int {
	return r.top().lineBreaks() + 1
}

// Line is where a place is.
func (r *Rope) Line(at int) (line, column int, e api.Errno) {
	if !r.spans(at, at) {
		return 0, 0, api.ErrArg
	}
	line = r.top().breaksAhead(at)
	return line, at - r.top().behindBreak(line), api.OK
}

// Start is where a line begins.
func (r *Rope) Start(line int) (int, api.Errno) {
	if line < 0 || line >= r.Lines() {
		return 0, api.ErrArg
	}
	return r.top().behindBreak(line), api.OK
}

// Depth is how deep it is.
func (r *Rope) Depth() int {
	return r.top().height()
}

func (r *Rope) top() *node {
	if r == nil {
		return nil
	}
	return r.root
}

func (r *Rope) spans(from, to int) bool {
	return 0 <= from && from <= to && to <= r.Len()
}

func (r *Rope) piece(from, to int) string {
	var b strings.Builder
	b.Grow(to - from)
	r.top().write(&b, from, to)
	return b.String()
}

func (r *Rope) replace(from, to int, text string) *Rope {
	before, after := cutAt(r.top(), from), cutAt(r.top(), to)
	return &Rope{root: weave(before.ahead, before.head+text+after.tail, after.behind)}
}
