package relex

import (
	"strings"
	"testing"

	"oxbow/api"
)

// others is how many of a document's lines are none of another one's.
func others(d, of *Doc) int {
	old := map[*line]bool{}
	for _, k := range of.made() {
		old[k.line] = true
	}
	n := 0
	for _, k := range d.made() {
		if !old[k.line] {
			n++
		}
	}
	return n
}

// TestWorkIsWhatIsNotKept: no line is lexed that is not counted.
func TestWorkIsWhatIsNotKept(t *testing.T) {
	text := "a\n'b\n/* c\n*/ d\ne\\\nf\n\n\"g\n??/\n/* h\n */\n\\\n"
	x, _ := New("f", text)
	if x.Work() != len(x.made()) {
		t.Fatalf("P6.2: New: Work %d, want %d", x.Work(), len(x.made()))
	}
	for at := range len(text) + 1 {
		for _, put := range []string{"", "x", "\n", "/*", "*/", "\\", "'", "1\n2\n3\n"} {
			y, _ := x.Insert(at, put)
			if got, want := y.Work(), others(y, x); got != want {
				t.Errorf("P6.2: %q at %d: Work %d, want %d", put, at, got, want)
			}
		}
		for to := at; to <= len(text); to++ {
			y, _ := x.Delete(at, to)
			if got, want := y.Work(), others(y, x); got != want {
				t.Errorf("P6.2: without %d to %d: Work %d, want %d", at, to, got, want)
			}
		}
	}
}

// TestMadeOnce: the lines are made when they are asked for, and not again; then nothing of the elder document is kept but lines.
func TestMadeOnce(t *testing.T) {
	x, _ := New("f", strings.Repeat("int a;\n", 10))
	y, _ := x.Insert(3, "b")
	if y.lines != nil || y.work.Load() != 0 {
		t.Error("the lines are made, and nobody asked for them")
	}
	y.Lines()
	first := &y.lines[0]
	y.once.Do(func() { t.Error("the lines would be made again") })
	y.Diags()
	y.Work()
	y.Insert(0, "c")
	if first != &y.lines[0] || y.edit.old != nil {
		t.Error("the lines were made again, or the elder ones are kept")
	}
}

// TestKeepsNoFile: what the lines share does not have the file's name, however long it is.
func TestKeepsNoFile(t *testing.T) {
	x, _ := New(strings.Repeat("f", 1000), "a\n'b\n")
	y, e := x.Insert(2, "c 'd\n")
	if e != api.OK {
		t.Fatal(e)
	}
	for _, k := range y.made() {
		for _, one := range k.line.Toks {
			if one.Span.File != "" {
				t.Errorf("a token is kept with %q", one.Span.File)
			}
		}
		for _, one := range k.line.diags {
			if one.Span.File != "" {
				t.Errorf("a diagnostic is kept with %q", one.Span.File)
			}
		}
	}
}
