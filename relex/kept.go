package relex

import (
	"slices"
	"strings"

	"oxbow/api"
	"oxbow/lex"
)

// line is a logical line with its diagnostics, as it was lexed: never changed, so documents share it. Its places are those of what was lexed with it, and its Spans name no file.
type line struct {
	lex.Line
	diags []api.Diag
}

// kept is a line in a document, by bytes behind where it was lexed.
type kept struct {
	line *line
	by   int
}

// keep is the lines of a text that begins at a place. Their tokens get texts of their own, as the ones that lex tells are pieces of all that was lexed at once.
func keep(lines []lex.Line, diags []api.Diag, begin int) []kept {
	var all []kept
	for _, l := range lines {
		for i, t := range l.Toks {
			l.Toks[i].Text = strings.Clone(t.Text)
		}
		n := 0
		for n < len(diags) && diags[n].Span.From < l.To {
			n++
		}
		all = append(all, kept{line: &line{Line: l, diags: slices.Clone(diags[:n])}, by: begin})
		diags = diags[n:]
	}
	return all
}

func (k kept) from() int {
	return k.line.From + k.by
}

func (k kept) to() int {
	return k.line.To + k.by
}

func (k kept) span(file string, s api.Span) api.Span {
	return api.Span{File: file, From: s.From + k.by, To: s.To + k.by}
}

// placed is the line where it is now, as new memory.
func (k kept) placed(file string) lex.Line {
	toks := slices.Clone(k.line.Toks)
	for i, t := range toks {
		toks[i].Span = k.span(file, t.Span)
	}
	return lex.Line{Toks: toks, From: k.from(), To: k.to(), Open: k.line.Open}
}
