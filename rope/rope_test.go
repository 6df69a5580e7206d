package rope_test

import (
	"math"
	"math/bits"
	"strings"
	"sync"
	"testing"

	"oxbow/api"
	"oxbow/rope"
)

// dice tells the same numbers in each run.
type dice uint64

func (d *dice) below(n int) int {
	*d = *d*6364136223846793005 + 1442695040888963407
	return int(uint64(*d) >> 33 % uint64(n))
}

func (d *dice) text(n int) string {
	b := make([]byte, n)
	for i := range b {
		b[i] = "ab\n\r\x00\xff\\?/\n"[d.below(10)]
	}
	return string(b)
}

// letters is a text in which each place looks different from those near it.
func letters(n int) string {
	b := make([]byte, n)
	for i := range b {
		b[i] = byte(i*7 + i/256)
	}
	return string(b)
}

func must(t *testing.T) func(*rope.Rope, api.Errno) *rope.Rope {
	return func(r *rope.Rope, e api.Errno) *rope.Rope {
		t.Helper()
		if e != api.OK || r == nil {
			t.Fatalf("got %v, error %d, want a rope", r, e)
		}
		return r
	}
}

func refused(t *testing.T, what string, want api.Errno) func(*rope.Rope, api.Errno) {
	return func(r *rope.Rope, e api.Errno) {
		t.Helper()
		if e != want || r != nil {
			t.Errorf("%s: got %v, error %d, want none, error %d", what, r, e, want)
		}
	}
}

func holds(t *testing.T, what string, r *rope.Rope, want string) {
	t.Helper()
	if r == nil {
		t.Fatalf("%s: got nil", what)
	}
	if got := r.Text(); got != want || r.Len() != len(want) {
		t.Fatalf("%s: got %d bytes %.80q, want %d bytes %.80q", what, r.Len(), got, len(want), want)
	}
}

func shallow(t *testing.T, what string, r *rope.Rope) {
	t.Helper()
	if deep, most := r.Depth(), 4*bits.Len(uint(r.Len()+1))+8; deep < 0 || deep > most {
		t.Fatalf("P1.3: %s: of %d bytes: got depth %d, want at most %d", what, r.Len(), deep, most)
	}
}

// linesAgree asks all places and lines of a rope, and those right beside them.
func linesAgree(t *testing.T, what string, r *rope.Rope, text string) {
	t.Helper()
	lines := strings.Count(text, "\n") + 1
	if got := r.Lines(); got != lines {
		t.Fatalf("P1.2: %s: Lines: got %d, want %d", what, got, lines)
	}
	line, start := 0, 0
	for at := range len(text) + 1 {
		if at > 0 && text[at-1] == '\n' {
			line, start = line+1, at
		}
		if l, c, e := r.Line(at); l != line || c != at-start || e != api.OK {
			t.Fatalf("P1.2: %s: Line(%d): got %d, %d, error %d, want %d, %d", what, at, l, c, e, line, at-start)
		}
		if at == start {
			if got, e := r.Start(line); got != start || e != api.OK {
				t.Fatalf("P1.2: %s: Start(%d): got %d, error %d, want %d", what, line, got, e, start)
			}
		}
	}
	for _, at := range []int{math.MinInt, -1, len(text) + 1, math.MaxInt} {
		if l, c, e := r.Line(at); l != 0 || c != 0 || e != api.ErrArg {
			t.Fatalf("P1.2: %s: Line(%d): got %d, %d, error %d, want ErrArg", what, at, l, c, e)
		}
	}
	for _, line := range []int{math.MinInt, -1, lines, lines + 1, math.MaxInt} {
		if got, e := r.Start(line); got != 0 || e != api.ErrArg {
			t.Fatalf("P1.2: %s: Start(%d): got %d, error %d, want ErrArg", what, line, got, e)
		}
	}
}

func TestNew(t *testing.T) {
	for _, n := range []int{0, 1, 2, 127, 128, 129, 255, 256, 257, 511, 512, 513, 1000, api.MaxFile - 1, api.MaxFile} {
		text := letters(n)
		holds(t, "P1.1: New", must(t)(rope.New(text)), text)
	}
	for _, n := range []int{api.MaxFile + 1, api.MaxFile + 2, 3 * api.MaxFile} {
		r, e := rope.New(letters(n))
		refused(t, "P1.1: New", api.ErrBig)(r, e)
	}
}

func TestInsertExample(t *testing.T) {
	r := must(t)(must(t)(rope.New("ac")).Insert(1, "b"))
	holds(t, "P1.1: example", r, "abc")
}

func TestSlice(t *testing.T) {
	text := letters(700)
	r := must(t)(rope.New(text))
	for from := range len(text) + 1 {
		for to := from; to <= len(text); to++ {
			if got, e := r.Slice(from, to); got != text[from:to] || e != api.OK {
				t.Fatalf("P1.1: Slice(%d, %d): got %q, error %d", from, to, got, e)
			}
		}
	}
}

func TestWrongPlaces(t *testing.T) {
	for _, text := range []string{"", "a", "ab\ncd", letters(700), letters(api.MaxFile)} {
		r := must(t)(rope.New(text))
		n := len(text)
		for _, at := range []int{math.MinInt, -1, n + 1, 2*n + 2, math.MaxInt} {
			for _, put := range []string{"", "x", letters(api.MaxFile + 1)} { // the place is looked at first
				got, e := r.Insert(at, put)
				refused(t, "P1.1: Insert", api.ErrArg)(got, e)
			}
		}
		for _, span := range [][2]int{{-1, 0}, {-1, -1}, {math.MinInt, math.MaxInt}, {1, 0}, {n, n - 1}, {0, n + 1}, {n + 1, n + 1}, {n + 1, n}, {0, -1}, {0, math.MaxInt}, {math.MaxInt, math.MinInt}} {
			got, e := r.Delete(span[0], span[1])
			refused(t, "P1.1: Delete", api.ErrArg)(got, e)
			if s, e := r.Slice(span[0], span[1]); s != "" || e != api.ErrArg {
				t.Errorf("P1.1: Slice(%d, %d) of %d bytes: got %q, error %d, want ErrArg", span[0], span[1], n, s, e)
			}
		}
		holds(t, "P1.1: behind what was refused", r, text)
	}
}

func TestTooLong(t *testing.T) {
	text := letters(api.MaxFile)
	r := must(t)(rope.New(text))
	for _, at := range []int{0, 300, api.MaxFile} {
		got, e := r.Insert(at, "x")
		refused(t, "P1.1: Insert into a full rope", api.ErrBig)(got, e)
		holds(t, "P1.1: nothing into a full rope", must(t)(r.Insert(at, "")), text)
	}
	less := must(t)(rope.New(text[:api.MaxFile-10]))
	for _, at := range []int{0, 300, api.MaxFile - 10} {
		got, e := less.Insert(at, text[:11])
		refused(t, "P1.1: Insert of one more", api.ErrBig)(got, e)
		full := must(t)(less.Insert(at, text[:10]))
		holds(t, "P1.1: Insert of as much as may be", full, text[:at]+text[:10]+text[at:api.MaxFile-10])
	}
	var none *rope.Rope
	got, e := none.Insert(0, text+"x")
	refused(t, "P1.1: Insert of too much into nothing", api.ErrBig)(got, e)
	holds(t, "P1.1: Insert of all into nothing", must(t)(none.Insert(0, text)), text)
}

func TestInsertEverywhere(t *testing.T) {
	for _, n := range []int{0, 1, 255, 256, 257, 900} {
		text := letters(n)
		r := must(t)(rope.New(text))
		for at := range n + 1 {
			for _, put := range []string{"", "\n", letters(300)} {
				got := must(t)(r.Insert(at, put))
				if got == r {
					t.Fatalf("P1.1: Insert(%d) answers the rope itself", at)
				}
				holds(t, "P1.1: Insert", got, text[:at]+put+text[at:])
			}
		}
		holds(t, "P1.1: the old one", r, text)
	}
}

func TestDeleteEverywhere(t *testing.T) {
	text := letters(600)
	r := must(t)(rope.New(text))
	for from := range len(text) + 1 {
		for to := from; to <= len(text); to++ {
			got := must(t)(r.Delete(from, to))
			if got == r {
				t.Fatalf("P1.1: Delete(%d, %d) answers the rope itself", from, to)
			}
			holds(t, "P1.1: Delete", got, text[:from]+text[to:])
		}
	}
	holds(t, "P1.1: the old one", r, text)
}

func TestDeleteFromFull(t *testing.T) {
	text := letters(api.MaxFile)
	r := must(t)(rope.New(text))
	for _, span := range [][2]int{{0, 0}, {0, 1}, {0, api.MaxFile}, {1, api.MaxFile - 1}, {256, 512}, {255, 30001}, {api.MaxFile - 1, api.MaxFile}, {api.MaxFile, api.MaxFile}} {
		got := must(t)(r.Delete(span[0], span[1]))
		holds(t, "P1.1: Delete", got, text[:span[0]]+text[span[1]:])
		shallow(t, "behind a Delete", got)
	}
}

// edited is a rope with the text it should have.
type edited struct {
	r    *rope.Rope
	text string
}

// editAny makes one more of one of those that are there: of any, as the old ones stay.
func editAny(t *testing.T, d *dice, all []edited) edited {
	t.Helper()
	old := all[len(all)-1-d.below(min(len(all), 5))]
	n := len(old.text)
	if d.below(5) < 2 {
		from := d.below(n + 1)
		to := min(n, from+d.below(1+d.below(800)))
		return edited{must(t)(old.r.Delete(from, to)), old.text[:from] + old.text[to:]}
	}
	at := d.below(n + 1)
	put := d.text(min(d.below(1+d.below(900)), api.MaxFile-n))
	return edited{must(t)(old.r.Insert(at, put)), old.text[:at] + put + old.text[at:]}
}

func TestOldOnesStay(t *testing.T) {
	d := dice(1)
	all := []edited{{must(t)(rope.New("")), ""}}
	for range 2000 {
		one := editAny(t, &d, all)
		holds(t, "P1.1: an edit", one.r, one.text)
		shallow(t, "an edit", one.r)
		all = append(all, one)
	}
	for _, one := range all {
		holds(t, "P1.1: an old one", one.r, one.text)
		if got, want := one.r.Lines(), strings.Count(one.text, "\n")+1; got != want {
			t.Fatalf("P1.2: Lines of an old one: got %d, want %d", got, want)
		}
	}
}

func TestLines(t *testing.T) {
	texts := []string{
		"", "a", "\n", "a\n", "\na", "a\nb", "\n\n\n", "a\r\nb\rc\r\n", "\x0b\x0c\u2028\u0085\n",
		strings.Repeat("\n", 1000), strings.Repeat("x", 1000),
		strings.Repeat("x", 255) + "\n" + strings.Repeat("y", 255) + "\n" + strings.Repeat("z", 256) + "\n",
		strings.Repeat("\n"+strings.Repeat("x", 127), 20), strings.Repeat("int x;\n", 300),
		strings.Repeat("\n", api.MaxFile), strings.Repeat("abcdefg\n", api.MaxFile/8), strings.Repeat("x", api.MaxFile-1) + "\n",
	}
	for _, text := range texts {
		linesAgree(t, "New", must(t)(rope.New(text)), text)
	}
}

func TestLinesOfEdited(t *testing.T) {
	d := dice(2)
	all := []edited{{must(t)(rope.New("")), ""}}
	for range 300 {
		one := editAny(t, &d, all)
		linesAgree(t, "an edit", one.r, one.text)
		all = append(all, one)
	}
}

// TestLinesAskedBetween: what was counted for an old rope does not tell of the new one.
func TestLinesAskedBetween(t *testing.T) {
	text := strings.Repeat("0123456789\n", 500)
	r := must(t)(rope.New(text))
	for n := range 200 {
		at := n * 7919 % (len(text) + 1)
		if r.Lines() != strings.Count(text, "\n")+1 {
			t.Fatalf("P1.2: %d: Lines: got %d", n, r.Lines())
		}
		next := must(t)(r.Insert(at, "\n\n"))
		if r.Lines()+2 != next.Lines() {
			t.Fatalf("P1.2: %d: got %d lines of the old, %d of the new", n, r.Lines(), next.Lines())
		}
		r, text = next, text[:at]+"\n\n"+text[at:]
	}
	linesAgree(t, "at the end", r, text)
}

func TestDepthOfNew(t *testing.T) {
	for n := 0; n <= api.MaxFile; n += 1 + n/50 {
		shallow(t, "New", must(t)(rope.New(letters(n))))
	}
	shallow(t, "New", must(t)(rope.New(letters(api.MaxFile))))
}

func TestDepthOfOneByteEach(t *testing.T) {
	places := map[string]func(n int) int{
		"at the end":    func(n int) int { return n },
		"at the front":  func(int) int { return 0 },
		"in the middle": func(n int) int { return n / 2 },
		"to and fro":    func(n int) int { return n % 2 * n },
		"all over":      func(n int) int { return n * 7919 % (n + 1) },
		"near the end":  func(n int) int { return max(0, n-300) },
	}
	for what, place := range places {
		r := must(t)(rope.New(""))
		for n := range 20000 {
			r = must(t)(r.Insert(place(n), string(rune('a'+n%26))))
			shallow(t, what, r)
		}
		for n := 20000; n > 0; n-- {
			at := min(place(n), n-1)
			r = must(t)(r.Delete(at, at+1))
			shallow(t, what+", taken out", r)
		}
		holds(t, "P1.3: "+what, r, "")
	}
}

// TestDepthOfHoles: of a full rope nearly all is taken out, a hole at a time.
func TestDepthOfHoles(t *testing.T) {
	for _, size := range []int{2, 100, 255, 256, 300, 5000} {
		text := letters(api.MaxFile)
		r := must(t)(rope.New(text))
		for at := len(text) - size; at >= 0; at -= size {
			r = must(t)(r.Delete(at+1, at+size))
			text = text[:at+1] + text[at+size:]
			shallow(t, "holes", r)
		}
		holds(t, "P1.3: holes", r, text)
	}
}

func TestNil(t *testing.T) {
	var none, zero *rope.Rope
	zero = &rope.Rope{}
	for _, r := range []*rope.Rope{none, zero} {
		if r.Len() != 0 || r.Text() != "" || r.Depth() != 0 || r.Lines() != 1 {
			t.Errorf("P1.3: nil: got %d, %q, depth %d, %d lines", r.Len(), r.Text(), r.Depth(), r.Lines())
		}
		linesAgree(t, "nil", r, "")
		if s, e := r.Slice(0, 0); s != "" || e != api.OK {
			t.Errorf("P1.3: nil: Slice(0, 0): got %q, error %d", s, e)
		}
		if s, e := r.Slice(0, 1); s != "" || e != api.ErrArg {
			t.Errorf("P1.3: nil: Slice(0, 1): got %q, error %d", s, e)
		}
		holds(t, "P1.3: nil: Insert", must(t)(r.Insert(0, "z")), "z")
		holds(t, "P1.3: nil: Insert of nothing", must(t)(r.Insert(0, "")), "")
		holds(t, "P1.3: nil: Delete", must(t)(r.Delete(0, 0)), "")
		got, e := r.Delete(0, 1)
		refused(t, "P1.3: nil: Delete", api.ErrArg)(got, e)
		got, e = r.Insert(1, "z")
		refused(t, "P1.3: nil: Insert", api.ErrArg)(got, e)
	}
	if r := must(t)(rope.New("")); r.Len() != 0 || r.Text() != "" || r.Lines() != 1 {
		t.Errorf("P1.3: New of nothing: got %d, %q", r.Len(), r.Text())
	}
	holds(t, "P1.3: all taken out", must(t)(must(t)(rope.New("abc")).Delete(0, 3)), "")
}

func TestThereAndBack(t *testing.T) {
	d := dice(3)
	for _, n := range []int{0, 1, 256, 257, 1500, 40000} {
		text := d.text(n)
		r := must(t)(rope.New(text))
		for range 200 {
			at, put := d.below(n+1), d.text(d.below(1+d.below(2000)))
			back := must(t)(must(t)(r.Insert(at, put)).Delete(at, at+len(put)))
			holds(t, "P1.4: there and back", back, text)
			shallow(t, "there and back", back)
		}
		linesAgree(t, "behind there and back", r, text)
	}
}

// TestOneAfterTheOther: the same rope goes there and back all the time.
func TestOneAfterTheOther(t *testing.T) {
	d := dice(4)
	text := d.text(5000)
	r := must(t)(rope.New(text))
	for range 500 {
		at, put := d.below(len(text)+1), d.text(d.below(400))
		r = must(t)(must(t)(r.Insert(at, put)).Delete(at, at+len(put)))
	}
	holds(t, "P1.4: one after the other", r, text)
	linesAgree(t, "one after the other", r, text)
	shallow(t, "one after the other", r)
}

func TestAnswersStay(t *testing.T) {
	d := dice(5)
	text := d.text(3000)
	r := must(t)(rope.New(text))
	all, piece := r.Text(), text[100:2000]
	got, _ := r.Slice(100, 2000)
	for range 300 {
		r = must(t)(r.Delete(d.below(1000), 1000+d.below(1000)))
		r = must(t)(r.Insert(d.below(r.Len()+1), d.text(3000-r.Len())))
	}
	if all != text || got != piece {
		t.Error("P1.4: what was answered was changed by later edits")
	}
}

// TestSharedByMany: ropes that were made of one another may each be asked in a goroutine of its own.
func TestSharedByMany(t *testing.T) {
	text := strings.Repeat("int x;\n", 5000)
	r := must(t)(rope.New(text))
	var all [16]*rope.Rope
	for n := range all {
		all[n] = must(t)(r.Insert(n*1000, "\n"))
	}
	var lines, starts [16]int
	var group sync.WaitGroup
	for n := range all {
		group.Go(func() {
			lines[n] = all[n].Lines()
			starts[n], _ = all[n].Start(lines[n] - 1)
		})
	}
	group.Wait()
	for n := range all {
		if lines[n] != 5002 || starts[n] != len(text)+1 {
			t.Errorf("P1.2: %d: got %d lines, the last at %d", n, lines[n], starts[n])
		}
	}
}
