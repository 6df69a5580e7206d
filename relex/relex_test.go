package relex_test

import (
	"math"
	"slices"
	"strconv"
	"strings"
	"sync"
	"testing"

	"oxbow/api"
	"oxbow/lex"
	"oxbow/relex"
)

// full is a text of n bytes, of lines of up to 8.
func full(n int) string {
	return strings.Repeat("int 'x;\n", n/8+1)[:n]
}

func refused(t *testing.T, what string, want api.Errno) func(d *relex.Doc, e api.Errno) {
	return func(d *relex.Doc, e api.Errno) {
		t.Helper()
		if d != nil || e != want {
			t.Errorf("%s: got %v, error %d, want none, error %d", what, d, e, want)
		}
	}
}

func TestNew(t *testing.T) {
	for _, text := range []string{
		"", "\n", "a", "a\n", "a\nb", "a\n\n", "'", "\"\n'\n", "/*", "/*\n*/a\nb", "a\\\nb\nc\n", "a\n\\\n", "??/\n", "a??/\nb", "//\\\nb\nc", "\x00\xff\n",
		full(api.MaxFile - 1), full(api.MaxFile), strings.Repeat("\n", api.MaxFile), strings.Repeat("x", api.MaxFile),
	} {
		x := newDoc(t, text)
		x.hold(t, "P6.1: New")
		if got, want := x.d.Work(), len(x.d.Lines()); got != want {
			t.Errorf("P6.2: New(%.50q): Work %d, want %d", text, got, want)
		}
	}
}

func TestNewTooBig(t *testing.T) {
	for _, n := range []int{1, 2, api.MaxFile} {
		d, e := relex.New(file, full(api.MaxFile+n))
		refused(t, "P6.1: New of too much", api.ErrBig)(d, e)
	}
}

func TestFileOfSpans(t *testing.T) {
	for _, name := range []string{"", "a", "a/b.c", strings.Repeat("x", 300), "\x00\n"} {
		d := must(t)(relex.New(name, "a 'b\nc \"d\n"))
		d = must(t)(d.Insert(5, "e\n'\n"))
		d = must(t)(d.Delete(0, 1))
		lines, diags := d.Lines(), d.Diags()
		want, wantDiags := lex.Lines(name, " 'b\ne\n'\nc \"d\n")
		if !slices.EqualFunc(lines, want, sameLine) || !slices.Equal(diags, wantDiags) || len(diags) != 3 {
			t.Errorf("P6.1: of %q: got %v, %v", name, lines, diags)
		}
		for _, l := range lines {
			for _, one := range l.Toks {
				if one.Span.File != name {
					t.Errorf("P6.1: of %q: got a token %+v", name, one)
				}
			}
		}
		for _, one := range diags {
			if one.Span.File != name {
				t.Errorf("P6.1: of %q: got a diagnostic %+v", name, one)
			}
		}
	}
}

func TestWrongPlaces(t *testing.T) {
	for _, text := range []string{"", "a", "ab\n'c\n", "a /*\n", full(700), full(api.MaxFile)} {
		x := newDoc(t, text)
		n := len(text)
		for _, at := range []int{math.MinInt, -1, n + 1, 2*n + 2, math.MaxInt} {
			for _, put := range []string{"", "x", full(api.MaxFile + 1)} { // the place is looked at first
				d, e := x.d.Insert(at, put)
				refused(t, "P6.1: Insert", api.ErrArg)(d, e)
			}
		}
		for _, c := range [][2]int{{-1, 0}, {-1, -1}, {math.MinInt, math.MaxInt}, {1, 0}, {n, n - 1}, {0, n + 1}, {n, n + 1}, {n + 1, n + 1}, {n + 1, n}, {0, -1}, {0, math.MaxInt}, {math.MaxInt, math.MinInt}} {
			d, e := x.d.Delete(c[0], c[1])
			refused(t, "P6.1: Delete", api.ErrArg)(d, e)
		}
		x.hold(t, "P6.1: behind what was refused")
		if got, want := x.d.Work(), len(x.d.Lines()); got != want {
			t.Errorf("P6.2: behind what was refused: Work %d, want %d", got, want)
		}
	}
}

func TestTooLong(t *testing.T) {
	text := full(api.MaxFile)
	x := newDoc(t, text)
	less := newDoc(t, text[:api.MaxFile-10])
	for _, at := range []int{0, 300, api.MaxFile - 10} {
		d, e := x.d.Insert(at, "\n")
		refused(t, "P6.1: Insert into a full document", api.ErrBig)(d, e)
		d, e = less.d.Insert(at, "'\n//6789\n\nx")
		refused(t, "P6.1: Insert of one more", api.ErrBig)(d, e)
		less.do(t, in(at, "'\n//6789\n\n"))
		x.do(t, in(at, ""))
	}
	x.hold(t, "P6.1: behind what was refused")
	none := newDoc(t, "")
	d, e := none.d.Insert(0, text+"x")
	refused(t, "P6.1: Insert of too much into nothing", api.ErrBig)(d, e)
	none.do(t, in(0, text)).do(t, out(0, api.MaxFile)).do(t, in(0, text))
}

func TestEditsOfAFullText(t *testing.T) {
	for _, text := range []string{full(api.MaxFile), full(api.MaxFile-1) + "\n", strings.Repeat("\n", api.MaxFile), strings.Repeat("x", api.MaxFile), "/*" + full(api.MaxFile-2)} {
		x, n := newDoc(t, text), api.MaxFile
		for _, c := range []change{in(0, ""), in(n, ""), in(n/2, ""), out(0, 0), out(n, n), out(0, 1), out(n-1, n), out(n/2, n/2+1), out(0, n), out(0, n-1), out(1, n), out(1, n-1), out(0, n/2), out(n/2, n)} {
			y := x.do(t, c)
			if gone := c.to - c.from; gone > 0 {
				y.do(t, in(c.from, full(gone)))
				y.do(t, in(0, "*/\n"[:min(3, gone)]))
				y.do(t, in(len(y.text), full(gone)))
			}
		}
	}
}

// TestNamedEdits: each edit that the promises' edges ask for, with lines ahead of it and behind.
func TestNamedEdits(t *testing.T) {
	for _, c := range []struct {
		of  string
		by  change
		now string
	}{
		{"", in(0, ""), ""},
		{"", in(0, "a"), "a"},
		{"", in(0, "\n"), "\n"},
		{"", in(0, "a\nb\n"), "a\nb\n"},
		{"", in(0, "\\\n"), "\\\n"},
		{"", out(0, 0), ""},
		{"a\nb\n", out(0, 4), ""},
		{"a\nb", out(0, 3), ""},
		{"/*\n", out(0, 3), ""},
		{"a\nb\n", in(0, "c"), "ca\nb\n"},
		{"a\nb\n", in(0, "\n"), "\na\nb\n"},
		{"a\nb\n", out(0, 1), "\nb\n"},
		{"a\nb\n", out(0, 2), "b\n"},
		// at the end
		{"a\nb\n", in(4, "c"), "a\nb\nc"},
		{"a\nb\n", in(4, "\n"), "a\nb\n\n"},
		{"a\nb\n", in(4, "\\\n"), "a\nb\n\\\n"},
		{"a\nb\n", in(4, "/*"), "a\nb\n/*"},
		{"a\nb", in(3, "c"), "a\nbc"},
		{"a\nb", in(3, "\n"), "a\nb\n"},
		{"a\nb", in(3, "\nc"), "a\nb\nc"},
		{"a\nb\n", out(3, 4), "a\nb"},
		{"a\nb\n", out(2, 4), "a\n"},
		{"a\nb\n", out(1, 4), "a"},
		{"a\nb", out(2, 3), "a\n"},
		{"a\nb\n\n", out(4, 5), "a\nb\n"},
		// lines
		{"ab\nc\n", in(1, "\n"), "a\nb\nc\n"},
		{"ab\nc\n", in(2, "\n"), "ab\n\nc\n"},
		{"ab\nc\nd\n", out(2, 3), "abc\nd\n"},
		{"ab\nc\nd\n", out(1, 5), "ad\n"},
		{"ab\nc\nd\ne", out(3, 7), "ab\ne"},
		{"ab\nc", in(1, "1\n2\n3\n4\n5"), "a1\n2\n3\n4\n5b\nc"},
		// within tokens, constants, white space
		{"x\nabc\ny", in(3, "+"), "x\na+bc\ny"},
		{"x\nabc\ny", in(3, " "), "x\na bc\ny"},
		{"x\na c\ny", in(3, "b"), "x\nab c\ny"},
		{"x\na c\ny", out(3, 4), "x\nac\ny"},
		{"x\na  c\ny", out(3, 4), "x\na c\ny"},
		{"x\n+ +\ny", out(3, 4), "x\n++\ny"},
		{"x\n\"abc\" d\ny", in(4, "\""), "x\n\"a\"bc\" d\ny"},
		{"x\n\"abc\" d\ny", in(4, "\n"), "x\n\"a\nbc\" d\ny"},
		{"x\n'a' 'b'\ny", out(4, 5), "x\n'a 'b'\ny"},
		{"x\n'a' 'b'\ny", in(4, "\\"), "x\n'a\\' 'b'\ny"},
		{"x\n'a b\ny", in(6, "'"), "x\n'a b'\ny"},
		{"x\n'\n'\ny", out(3, 4), "x\n''\ny"},
		{"x\n\t\f \ny", in(3, "a"), "x\n\ta\f \ny"},
		// comments
		{"a\nb\nc*/d\ne\n", in(2, "/*"), "a\n/*b\nc*/d\ne\n"},
		{"a\nb\nc\n", in(2, "/*"), "a\n/*b\nc\n"},
		{"a\n*b\nc*/d\ne\n", in(2, "/"), "a\n/*b\nc*/d\ne\n"},
		{"a\n/b\nc*/d\ne\n", in(3, "*"), "a\n/*b\nc*/d\ne\n"},
		{"a\n//*b\nc*/d\ne\n", out(2, 3), "a\n/*b\nc*/d\ne\n"},
		{"a\n/\nc*/d\ne\n", in(3, "*"), "a\n/*\nc*/d\ne\n"},
		{"a\n'/*'\nc*/d\ne\n", out(2, 3), "a\n/*'\nc*/d\ne\n"},
		{"a\n//\n/*b\nc*/d/*\n*/e\nf\n", in(4, "/*"), "a\n///*\n/*b\nc*/d/*\n*/e\nf\n"},
		{"a\n/\n/*b\nc*/d/*\n*/e\nf\n", in(3, "*"), "a\n/*\n/*b\nc*/d/*\n*/e\nf\n"},
		{"a\nb\nc*/d/*e\n*/f\ng\n", in(3, "/*"), "a\nb/*\nc*/d/*e\n*/f\ng\n"},
		{"a\nb\n//*/d/*e\n*/f\ng\n", in(3, "/*"), "a\nb/*\n//*/d/*e\n*/f\ng\n"},
		{"a\nb\n/c\n*/d\ne", in(3, "/*"), "a\nb/*\n/c\n*/d\ne"},
		{"a\nb\nc*\\\n/d\ne", in(3, "/*"), "a\nb/*\nc*\\\n/d\ne"},
		{"a\nb\nc*\n/d\n*/e\nf", in(3, "/*"), "a\nb/*\nc*\n/d\n*/e\nf"},
		{"a\nb*\n/c\n*/d\ne", in(3, "/"), "a\nb/*\n/c\n*/d\ne"},
		{"a\n/*b\nc\nd\n", in(4, "*/"), "a\n/**/b\nc\nd\n"},
		{"a\n/*b\nc\n'd\n", in(6, "*/"), "a\n/*b\n*/c\n'd\n"},
		{"a\n/*b\nc\n'd\n/*", in(6, "*/"), "a\n/*b\n*/c\n'd\n/*"},
		{"a\n/*b\nc*/d\ne\n", out(7, 8), "a\n/*b\nc/d\ne\n"},
		{"a\n/*b\nc*/d\ne*/f\ng\n", out(7, 9), "a\n/*b\ncd\ne*/f\ng\n"},
		{"a\n/*b\nc*/d\ne\n", out(2, 3), "a\n*b\nc*/d\ne\n"},
		{"a\n/*b\nc*/d\ne\n", out(0, 5), "\nc*/d\ne\n"},
		{"a\n/*b*/\nd\ne\n", in(6, "\n"), "a\n/*b*\n/\nd\ne\n"},
		{"a\n/*b\nc\nd\n", out(5, 10), "a\n/*b"},
		// splices and trigraphs
		{"a\nb\nc\nd\n", in(3, "\\"), "a\nb\\\nc\nd\n"},
		{"a\nb\nc\nd\n", in(3, "??/"), "a\nb??/\nc\nd\n"},
		{"a\n?/\nc\nd\n", in(2, "?"), "a\n??/\nc\nd\n"},
		{"a\n??\nc\nd\n", in(4, "/"), "a\n??/\nc\nd\n"},
		{"a\n??x/\nc\nd\n", out(4, 5), "a\n??/\nc\nd\n"},
		{"a\nb\\\nc\nd\n", out(3, 4), "a\nb\nc\nd\n"},
		{"a\nb\\\nc\nd\n", out(4, 5), "a\nb\\c\nd\n"},
		{"a\nb\\\nc\nd\n", in(4, " "), "a\nb\\ \nc\nd\n"},
		{"a\nb\\\nc\nd\n", in(4, "\\"), "a\nb\\\\\nc\nd\n"},
		{"a\nb\\x\nc\nd\n", out(4, 5), "a\nb\\\nc\nd\n"},
		{"a\nb\\x\nc\\\nd\ne", out(4, 5), "a\nb\\\nc\\\nd\ne"},
		{"a\nb\\x\n\\\nd\ne", out(4, 5), "a\nb\\\n\\\nd\ne"},
		{"a\nb\\\nc\nd\n", out(4, 7), "a\nb\\d\n"},
		{"a\nb\nc\nd\n", in(3, "//\\"), "a\nb//\\\nc\nd\n"},
		{"a\n'\nc'\nd\n", in(3, "\\"), "a\n'\\\nc'\nd\n"},
		{"a\n/\n*b\nc*/\nd\n", in(3, "\\"), "a\n/\\\n*b\nc*/\nd\n"},
		{"a\n/\\\n*b\nc*/\nd\n", out(3, 4), "a\n/\n*b\nc*/\nd\n"},
		{"a\n?=\nc\n", in(2, "?"), "a\n??=\nc\n"},
		{"a\n??=\nc\n", in(3, "?"), "a\n???=\nc\n"},
		{"a\n??=\nc\n", out(4, 5), "a\n??\nc\n"},
		{"a\n??'b'\nc\n", out(2, 3), "a\n?'b'\nc\n"},
		// splices alone at the end
		{"a\n\\b\n", out(3, 4), "a\n\\\n"},
		{"a\n??/b\n", out(5, 6), "a\n??/\n"},
		{"a\n\\\nb", out(4, 5), "a\n\\\n"},
		{"a\n\\\n??/\nb\n", out(8, 10), "a\n\\\n??/\n"},
		{"a\n\\\n", in(4, "b"), "a\n\\\nb"},
		{"a\n\\\n", in(4, "\n"), "a\n\\\n\n"},
		{"a\n\\\n", in(2, "b"), "a\nb\\\n"},
		{"a\n\\\n", in(3, "b"), "a\n\\b\n"},
		{"a\n\\\n", out(1, 2), "a\\\n"},
		{"a\n\\\n", out(0, 2), "\\\n"},
		{"a\nb\n\\\n", out(2, 4), "a\n\\\n"},
		{"a\nb\\x\n\\\n", out(2, 3), "a\n\\x\n\\\n"},
		{"a\n\\x\n\\\n", out(3, 4), "a\n\\\n\\\n"},
		{"\\x\n\\\n", out(1, 2), "\\\n\\\n"},
		{"a\n/*\\x\n", out(5, 6), "a\n/*\\\n"},
	} {
		if got := c.by.of(c.of); got != c.now {
			t.Errorf("the test: %q, %v: %q is not %q", c.of, c.by, got, c.now)
			continue
		}
		for _, ahead := range []string{"", "\n", "p\n", "'\n\n", "??=\\\n\n"} {
			for _, behind := range []string{"", "q", "q\n", "\n'\n", "*/", "/*r\n*/\n"} {
				by := change{from: c.by.from + len(ahead), to: c.by.to + len(ahead), put: c.by.put}
				x := newDoc(t, ahead+c.of+behind)
				y := x.do(t, by)
				x.hold(t, "P6.1: the old one")
				back := out(by.from, by.from+len(by.put))
				if by.put == "" {
					back = in(by.from, x.text[by.from:by.to])
				}
				if z := y.do(t, back); z.text != x.text {
					t.Fatalf("the test: %v is not the way back", back)
				}
			}
		}
	}
}

// TestEachEditOfShortTexts: all that may be put in or taken out of all that there is.
func TestEachEditOfShortTexts(t *testing.T) {
	pieces := piecesOf("a|\n|\\|/|*|?|??/|'| ")
	anyOf(pieces, 3, func(text string) {
		for _, around := range [][2]string{{"", ""}, {"p\n", ""}, {"", "\nq*/\nr\n"}} {
			x := newDoc(t, around[0]+text+around[1])
			x.d.Work()
			for at := range len(x.text) + 1 {
				for _, put := range append(pieces, "/*", "*/", "\n\n", "\\\n") {
					x.do(t, in(at, put))
				}
				for to := at; to <= len(x.text); to++ {
					x.do(t, out(at, to))
				}
			}
		}
	})
}

// TestRowsOfEdits: edits of edited documents, any of those that are there.
func TestRowsOfEdits(t *testing.T) {
	for _, pieces := range [][]string{plainPieces(), allPieces()} {
		for seed := range 60 {
			d := throw(int64(seed))
			all := []edited{newDoc(t, d.of(pieces, d.Intn(300)))}
			for range 100 {
				x := all[len(all)-1-d.Intn(min(len(all), 3))]
				all = append(all, x.do(t, d.change(x.text, pieces, 12)))
			}
			for _, x := range all {
				x.hold(t, "P6.3: an old one")
			}
		}
	}
}

// TestSmallEditsOfALongText: most lines are kept all the way.
func TestSmallEditsOfALongText(t *testing.T) {
	for _, pieces := range [][]string{plainPieces(), allPieces()} {
		d := throw(7)
		x := newDoc(t, d.of(pieces, 8000))
		for range 300 {
			x = x.do(t, d.change(x.text, pieces, 4))
		}
	}
}

func TestTypedAndTakenBack(t *testing.T) {
	text := "/* a\n b */ int x; // c\n#define f(x) \\\n  x 'y\n??/\n\"s\\\"t\" L'u' /* v\n"
	x := newDoc(t, "")
	for i := range len(text) {
		x = x.do(t, in(i, text[i:i+1]))
	}
	for i := len(text); i > 0; i-- {
		x = x.do(t, out(i-1, i))
	}
	for i := len(text); i > 0; i-- {
		x = x.do(t, in(0, text[i-1:i]))
	}
	for range len(text) {
		x = x.do(t, out(0, 1))
	}
}

func TestDiagsMove(t *testing.T) {
	x := newDoc(t, "'a\nb\n  \"c\nd \"e 'f\n/*g\n")
	told := func(what string, x edited, quotes []int, comment int) {
		t.Helper()
		var want []api.Diag
		for _, from := range quotes {
			want = append(want, api.Diag{Code: api.DQuote, Span: api.Span{File: file, From: from, To: from + 1}})
		}
		want = append(want, api.Diag{Code: api.DComment, Span: api.Span{File: file, From: comment, To: comment + 2}})
		if got := x.d.Diags(); !slices.Equal(got, want) {
			t.Errorf("P6.1: %s: got %v, want %v", what, got, want)
		}
	}
	told("New", x, []int{0, 7, 12, 15}, 18)
	told("ahead", x.do(t, in(0, "xx\n")), []int{3, 10, 15, 18}, 21)
	told("within the first one's line", x.do(t, in(1, "y")), []int{0, 8, 13, 16}, 19)
	told("between", x.do(t, in(3, "''\n\n")), []int{0, 11, 16, 19}, 22)
	told("one more", x.do(t, in(4, "'")), []int{0, 4, 8, 13, 16}, 19)
	told("one less", x.do(t, out(7, 8)), []int{0, 11, 14}, 17)
	told("none of a line", x.do(t, out(0, 5)), []int{2, 7, 10}, 13)
	told("at one", x.do(t, in(7, " ")), []int{0, 8, 13, 16}, 19)
	told("behind all", x.do(t, in(22, "h'")), []int{0, 7, 12, 15}, 18)
	told("there and back", x.do(t, in(3, "\n\n'")).do(t, out(3, 6)), []int{0, 7, 12, 15}, 18)
}

func TestWorkOfOneLine(t *testing.T) {
	x := newDoc(t, strings.Repeat("int a;\n", 100))
	for at := range len(x.text) + 1 {
		y := x.do(t, in(at, "y"))
		z := y.do(t, out(at, at+1))
		if x.d.Work() != 100 || y.d.Work() < 1 || y.d.Work() > 4 || z.d.Work() > 4 {
			t.Fatalf("P6.2: a letter at %d: Work %d, %d, %d", at, x.d.Work(), y.d.Work(), z.d.Work())
		}
	}
}

func TestWorkOfManyLines(t *testing.T) {
	x := newDoc(t, strings.Repeat("int a;\n", 1000))
	for _, n := range []int{0, 1, 2, 10, 500} {
		for _, at := range []int{0, 3, 7, 3500, 3503, len(x.text)} {
			y := x.do(t, in(at, strings.Repeat("b\n", n)))
			if got := y.d.Work(); got < n || got > n+5 {
				t.Errorf("P6.2: %d lines put in at %d: Work %d", n, at, got)
			}
			if got := y.do(t, out(at, at+2*n)).d.Work(); got > 5 {
				t.Errorf("P6.2: %d lines taken out at %d: Work %d", n, at, got)
			}
		}
		if got := x.do(t, out(700, 700+7*n)).d.Work(); got > 5 {
			t.Errorf("P6.2: %d lines taken out: Work %d", n, got)
		}
		if got := x.do(t, out(703, 703+7*n)).d.Work(); got > 4 {
			t.Errorf("P6.2: %d lines taken out, two joined: Work %d", n, got)
		}
	}
}

// TestWorkBesideOthers: comments and splices that an edit does not touch are not lexed anew either.
func TestWorkBesideOthers(t *testing.T) {
	head := "/* a\n b\n c */ d\n"
	x := newDoc(t, head+strings.Repeat("int a;\n", 50)+"#define f \\\n x ??/\n y\n"+strings.Repeat("/* k */ '\n", 50)+"l /*\n")
	for at := len(head); at < len(head)+350; at++ {
		for _, c := range []change{in(at, "y"), in(at, "\n"), out(at, at+1)} {
			if got := x.do(t, c).d.Work(); got > 5 {
				t.Errorf("P6.2: %v: Work %d", c, got)
			}
		}
	}
	at := len(head) + 7*49 + 3
	for what, y := range map[string]edited{
		"a comment up to the next one's end": x.do(t, in(at, "/*")),
		"a comment in its line":              x.do(t, in(at, "/**/")),
		"a splice":                           x.do(t, in(at+3, "\\")),
		"a splice by a trigraph":             x.do(t, in(at+3, "??/")),
		"a comment's line":                   x.do(t, in(6, "'")),
		"the open one":                       x.do(t, in(len(x.text), "*/'\n")),
	} {
		if got := y.d.Work(); got > 4 {
			t.Errorf("P6.2: %s: Work %d", what, got)
		}
	}
}

// TestWorkIsOfOneDocument: it counts no other one's lines, and asking does not add to it.
func TestWorkIsOfOneDocument(t *testing.T) {
	x := newDoc(t, strings.Repeat("int a;\n", 100))
	var all []edited
	for n := range 20 {
		all = append(all, x.do(t, in(7*n, "b\n")))
	}
	for n, y := range all {
		z := y.do(t, in(0, strings.Repeat("c\n", n)))
		if got := z.d.Work(); got < n || got > n+4 {
			t.Errorf("P6.2: edit of an edited one: Work %d", got)
		}
	}
	for range 3 {
		for _, y := range all {
			y.hold(t, "P6.3: asked again")
			if got := y.d.Work(); got < 1 || got > 6 {
				t.Errorf("P6.2: asked again: Work %d", got)
			}
		}
		if got := x.d.Work(); got != 100 {
			t.Errorf("P6.2: Work of the first: %d", got)
		}
	}
}

// TestWorkAskedFirst: it is the same, whatever was asked ahead, of this document or of the one it was made of.
func TestWorkAskedFirst(t *testing.T) {
	ask := []func(d *relex.Doc){
		func(d *relex.Doc) {},
		func(d *relex.Doc) { d.Work() },
		func(d *relex.Doc) { d.Lines() },
		func(d *relex.Doc) { d.Diags() },
		func(d *relex.Doc) { d.Text() },
		func(d *relex.Doc) { d.Insert(0, "x\ny\n") },
		func(d *relex.Doc) { d.Delete(0, len(d.Text())) },
		func(d *relex.Doc) { d.Delete(1, 0) },
	}
	var works []string
	for _, first := range ask {
		for _, second := range ask {
			x := must(t)(relex.New(file, strings.Repeat("int a;\n", 100)))
			first(x)
			y := must(t)(x.Insert(10, "b\nc\n"))
			second(y)
			works = append(works, strconv.Itoa(x.Work())+" "+strconv.Itoa(y.Work()))
		}
	}
	if all := slices.Compact(works); len(all) != 1 {
		t.Errorf("P6.2: Work hangs on what was asked ahead: %v", all)
	}
}

func TestElderOnesStay(t *testing.T) {
	d := throw(3)
	x := newDoc(t, d.of(allPieces(), 400))
	text, lines, diags, work := x.d.Text(), x.d.Lines(), x.d.Diags(), x.d.Work()
	y := x
	for range 200 {
		x.do(t, d.change(x.text, allPieces(), 30))
		y = y.do(t, d.change(y.text, allPieces(), 30))
	}
	if x.d.Text() != text || x.d.Work() != work || !slices.Equal(x.d.Diags(), diags) || !slices.EqualFunc(x.d.Lines(), lines, sameLine) {
		t.Error("P6.1: the elder one was changed by edits")
	}
	want, wantDiags := lex.Lines(file, x.text)
	if !slices.EqualFunc(lines, want, sameLine) || !slices.Equal(diags, wantDiags) {
		t.Error("P6.3: what was answered was changed by edits")
	}
}

// spoil changes all of what was answered, its spare room too.
func spoil(d *relex.Doc) {
	lines, diags := d.Lines(), d.Diags()
	for i := range lines {
		toks := lines[i].Toks[:cap(lines[i].Toks)]
		for j := range toks {
			toks[j] = api.Token{Kind: 9, Text: "spoilt", Space: true, Span: api.Span{File: "no", From: -1, To: -2}, Made: true, Sites: []api.Site{{}}}
		}
	}
	lines = lines[:cap(lines)]
	for i := range lines {
		lines[i] = lex.Line{From: -1, To: -2, Open: true}
	}
	diags = diags[:cap(diags)]
	for i := range diags {
		diags[i] = api.Diag{Code: 9}
	}
}

func TestAnswersAreNew(t *testing.T) {
	x := newDoc(t, "a b\n'c\n/*\n*/d \"e\nf\n/*")
	spoil(x.d)
	x.hold(t, "P6.3: behind what was changed")
	for at := range len(x.text) + 1 {
		y := x.do(t, in(at, "'\ng"))
		spoil(y.d)
		y.hold(t, "P6.3: behind what was changed")
		x.hold(t, "P6.3: behind what was changed of another one")
		y.do(t, out(at, at+1))
		spoil(x.d)
		y.hold(t, "P6.3: behind what was changed of the elder one")
	}
	lines := x.d.Lines()
	for i := range lines {
		for range 3 {
			lines[i].Toks = append(lines[i].Toks, api.Token{Text: "more"})
		}
	}
	for i, l := range x.d.Lines() {
		if !slices.EqualFunc(append(l.Toks, api.Token{Text: "more"}, api.Token{Text: "more"}, api.Token{Text: "more"}), lines[i].Toks, sameToken) {
			t.Errorf("P6.3: lists of one answer share room: line %d", i)
		}
	}
}

func TestHoweverItCame(t *testing.T) {
	text := "a /*\n*/ b\n\\\nc 'd\n??/\n\"e\n"
	whole := newDoc(t, text)
	for at := range len(text) + 1 {
		for to := at; to <= len(text); to++ {
			less := newDoc(t, text[:at]+text[to:])
			if y := less.do(t, in(at, text[at:to])); y.text != whole.text {
				t.Fatalf("P6.3: got %q", y.text)
			}
			more := newDoc(t, text[:to]+text[at:])
			if y := more.do(t, out(to, to+to-at)); y.text != whole.text {
				t.Fatalf("P6.3: got %q", y.text)
			}
		}
	}
}

func TestNil(t *testing.T) {
	var none *relex.Doc
	for _, at := range []int{math.MinInt, -1, 0, 1, math.MaxInt} {
		for _, put := range []string{"", "a", full(api.MaxFile + 1)} {
			d, e := none.Insert(at, put)
			refused(t, "P6.2: nil: Insert", api.ErrArg)(d, e)
		}
		for _, to := range []int{math.MinInt, -1, 0, 1, math.MaxInt} {
			d, e := none.Delete(at, to)
			refused(t, "P6.2: nil: Delete", api.ErrArg)(d, e)
		}
	}
	if none.Text() != "" || len(none.Lines()) != 0 || len(none.Diags()) != 0 || none.Work() != 0 {
		t.Errorf("P6.2: nil: got %q, %v, %v, %d", none.Text(), none.Lines(), none.Diags(), none.Work())
	}
}

// TestZero: a document that New did not make ends its calls, too.
func TestZero(t *testing.T) {
	zero := &relex.Doc{}
	if zero.Text() != "" || len(zero.Lines()) != 0 || len(zero.Diags()) != 0 || zero.Work() != 0 {
		t.Errorf("zero: got %q, %v, %v, %d", zero.Text(), zero.Lines(), zero.Diags(), zero.Work())
	}
	d := must(t)(zero.Insert(0, "a\n'\n"))
	if len(d.Lines()) != 2 || len(d.Diags()) != 1 || d.Work() != 2 {
		t.Errorf("zero: Insert: got %v, %v, %d", d.Lines(), d.Diags(), d.Work())
	}
	d = must(t)(zero.Delete(0, 0))
	if len(d.Lines()) != 0 || d.Work() != 0 {
		t.Errorf("zero: Delete: got %v, %d", d.Lines(), d.Work())
	}
}

// TestSharedByMany: documents that were made of one another may each be asked in a goroutine of its own, and one by many.
func TestSharedByMany(t *testing.T) {
	text := strings.Repeat("int 'a;\n", 2000)
	x := must(t)(relex.New(file, text))
	var all [16]*relex.Doc
	for n := range all {
		all[n] = must(t)(x.Insert(n*1000, "b\n"))
	}
	var lines, diags, works, first [16]int
	var group sync.WaitGroup
	for n := range all {
		group.Go(func() {
			y, _ := all[n].Delete(0, 8)
			lines[n], diags[n], works[n] = len(y.Lines()), len(all[n].Diags()), all[n].Work()
			first[n] = len(x.Lines())
		})
	}
	group.Wait()
	for n := range all {
		if lines[n] != 2000 || diags[n] != 2000 || works[n] < 1 || works[n] > 5 || first[n] != 2000 {
			t.Errorf("P6.1: %d: got %d lines, %d diagnostics, Work %d, %d lines of the elder one", n, lines[n], diags[n], works[n], first[n])
		}
	}
}
