package relex

import (
	"slices"
	"sort"
	"strings"

	"oxbow/api"
	"oxbow/lex"
	"oxbow/rope"
)

// edit is a change of a text that has the lines old: its bytes from and ahead of to are others now, and so many more. The zero edit makes any text of an empty one.
type edit struct {
	old      []kept
	from, to int
	more     int
}

// anew is what an edit touches: the old lines from first on, ahead of next. What the new text has in their place is the part that is lexed.
type anew struct {
	edit
	text        *rope.Rope
	first, next int
}

// touched is what an edit touches, but for a comment that it opens. It begins with the line of the edit's first byte, as what ends ahead of that ends there whatever comes behind, and ends with a line whose byte 10 still stands: from there on the characters are the old ones.
func (e edit) touched(text *rope.Rope) *anew {
	a := &anew{edit: e, text: text}
	a.first = e.lineOf(e.from)
	a.next = min(e.lineOf(e.to)+1, len(e.old))
	for a.next < len(a.old) && spliced(a.part()) {
		a.next++
	}
	// Here it is the text's end that is spliced, and splices with nothing behind them are of the line ahead.
	if a.first > 0 && spliced(a.part()) {
		a.first--
	}
	return a
}

// lex is the part's lines. A comment that it opens takes in the lines behind, up to one that does not end within a comment: each of them is looked at by itself, as if a comment began it.
func (a *anew) lex() ([]lex.Line, []api.Diag) {
	lines, diags := lex.Lines("", a.part())
	if a.next == len(a.old) || !open(lines) {
		return lines, diags
	}
	for within := true; within && a.next < len(a.old); a.next++ {
		behind, _ := lex.Lines("", "/*"+a.slice(a.place(a.next), a.place(a.next+1)))
		within = open(behind)
	}
	return lex.Lines("", a.part())
}

// among is the old lines with others in the part's place.
func (a *anew) among(part []kept) []kept {
	lines := slices.Concat(a.old[:a.first], part, a.old[a.next:])
	for i := a.first + len(part); i < len(lines); i++ {
		lines[i].by += a.more
	}
	return lines
}

// lineOf is the old line that has the byte at a place, or else the last one.
func (e edit) lineOf(place int) int {
	i := sort.Search(len(e.old), func(i int) bool { return e.old[i].to() > place })
	return max(0, min(i, len(e.old)-1))
}

// begin is where the part begins: ahead of the edit, where nothing moved.
func (a *anew) begin() int {
	if a.first == len(a.old) {
		return 0
	}
	return a.old[a.first].from()
}

// place is where an old line that is behind the edit begins now.
func (a *anew) place(i int) int {
	if i == len(a.old) {
		return a.text.Len()
	}
	return a.old[i].from() + a.more
}

func (a *anew) part() string {
	return a.slice(a.begin(), a.place(a.next))
}

func (a *anew) slice(from, to int) string {
	text, _ := a.text.Slice(from, to)
	return text
}

// spliced is whether a text's last byte is a byte 10 that a \ takes away.
func spliced(text string) bool {
	return strings.HasSuffix(text, "\\\n") || strings.HasSuffix(text, "??/\n")
}

// open is whether lines end within a comment.
func open(lines []lex.Line) bool {
	return len(lines) > 0 && lines[len(lines)-1].Open
}
