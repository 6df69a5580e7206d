package relex_test

import (
	"math/rand"
	"slices"
	"strings"
	"testing"

	"oxbow/api"
	"oxbow/lex"
	"oxbow/relex"
)

const file = "dir/f.c"

// edited is a document with the text that it should have.
type edited struct {
	d    *relex.Doc
	text string
}

// change is an edit: put, if it is not empty, is put in at from; else the bytes from and ahead of to are taken out.
type change struct {
	from, to int
	put      string
}

func in(at int, put string) change { return change{from: at, to: at, put: put} }
func out(from, to int) change      { return change{from: from, to: to} }

func (c change) of(text string) string {
	return text[:c.from] + c.put + text[c.to:]
}

func must(t *testing.T) func(d *relex.Doc, e api.Errno) *relex.Doc {
	return func(d *relex.Doc, e api.Errno) *relex.Doc {
		t.Helper()
		if d == nil || e != api.OK {
			t.Fatalf("got %v, error %d, want a document", d, e)
		}
		return d
	}
}

func newDoc(t *testing.T, text string) edited {
	t.Helper()
	return edited{must(t)(relex.New(file, text)), text}
}

// do makes the edit, and holds what comes of it.
func (x edited) do(t *testing.T, c change) edited {
	t.Helper()
	y := edited{text: c.of(x.text)}
	if c.put != "" || c.from == c.to {
		y.d = must(t)(x.d.Insert(c.from, c.put))
	} else {
		y.d = must(t)(x.d.Delete(c.from, c.to))
	}
	if y.d == x.d {
		t.Fatalf("P6.1: %.100q, %v: the document itself is answered", x.text, c)
	}
	y.hold(t, "P6.1: edit of %.200q by %v", x.text, c)
	if most := worth(x.text, y.text, c); y.d.Work() > most {
		t.Fatalf("P6.2: edit of %.200q by %v: Work %d, want at most %d", x.text, c, y.d.Work(), most)
	}
	return y
}

// hold holds a document against 5's Lines of its text.
func (x edited) hold(t *testing.T, what string, about ...any) {
	t.Helper()
	if got := x.d.Text(); got != x.text {
		t.Fatalf(what+": Text: got %.200q, want %.200q", append(about, got, x.text)...)
	}
	want, wantDiags := lex.Lines(file, x.text)
	if got := x.d.Lines(); !slices.EqualFunc(got, want, sameLine) {
		t.Fatalf(what+": %.200q: Lines:\n got %.900v\nwant %.900v", append(about, x.text, got, want)...)
	}
	if got := x.d.Diags(); !slices.Equal(got, wantDiags) {
		t.Fatalf(what+": %.200q: Diags:\n got %.900v\nwant %.900v", append(about, x.text, got, wantDiags)...)
	}
}

func sameToken(a, b api.Token) bool {
	return a.Kind == b.Kind && a.Text == b.Text && a.Space == b.Space && a.Span == b.Span && a.Made == b.Made && len(a.Sites) == len(b.Sites)
}

func sameLine(a, b lex.Line) bool {
	return a.From == b.From && a.To == b.To && a.Open == b.Open && slices.EqualFunc(a.Toks, b.Toks, sameToken)
}

// plain is whether P6.2 tells of edits of a text.
func plain(text string) bool {
	return !strings.Contains(text, "/*") && !strings.Contains(text, `\`) && !strings.Contains(text, "??")
}

// worth is how much Work an edit may be. Lines of plain texts are what stands between bytes 10.
func worth(old, text string, c change) int {
	if !plain(old) || !plain(text) {
		l, _ := lex.Lines(file, text)
		return len(l)
	}
	most, from := 3, 0
	for _, line := range strings.SplitAfter(text, "\n") {
		to := from + len(line)
		changed := from < c.from+len(c.put) && c.from < to
		touches := from <= c.from && c.from <= to
		if line != "" && (changed || touches) {
			most++
		}
		from = to
	}
	return most
}

// anyOf is each text of at most n of these pieces.
func anyOf(pieces []string, n int, see func(text string)) {
	see("")
	if n == 0 {
		return
	}
	for _, piece := range pieces {
		anyOf(pieces, n-1, func(text string) {
			see(piece + text)
		})
	}
}

// dice throws the same in each run.
type dice struct{ *rand.Rand }

func throw(seed int64) dice { return dice{rand.New(rand.NewSource(seed))} }

// of is a text of n of these pieces.
func (d dice) of(pieces []string, n int) string {
	var text strings.Builder
	for range n {
		text.WriteString(pieces[d.Intn(len(pieces))])
	}
	return text.String()
}

// change is an edit of a text; what it puts in has up to n pieces.
func (d dice) change(text string, pieces []string, n int) change {
	from := d.Intn(len(text) + 1)
	if d.Intn(2) == 0 {
		return out(from, min(len(text), from+d.Intn(1+d.Intn(3*n))))
	}
	return in(from, d.of(pieces, d.Intn(1+n)))
}

// piecesOf is what there is between the bars.
func piecesOf(text string) []string { return strings.Split(text, "|") }

func plainPieces() []string {
	return piecesOf("a|b1| |\t|\n|\n|\n|+|++|;|(|'|\"|'x'|\"y\"|L'|u8\"|//|/|*|*/|?|.5|1e|e|+|@|\x00|\xff|\r")
}

func allPieces() []string {
	return append(plainPieces(), piecesOf("\\|\\\n|\\\n|??/|??/\n|??|?|??=|/*|/*|*/|*/|/\\\n*|*\\\n/|\n|\n|\\'|\\\"")...)
}
