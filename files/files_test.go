package files_test

import (
	"math"
	"slices"
	"sort"
	"strconv"
	"strings"
	"testing"
	"unsafe"

	"oxbow/api"
	"oxbow/files"
	"oxbow/paths"
	"oxbow/rope"
)

const part20 = "abcdefghijKLMNOP-_.9"

var (
	longest = strings.Repeat("a/", 39) + "aa" // 80 bytes
	tooLong = strings.Repeat("a/", 39) + "aaa"
	full    = strings.Repeat("x", api.MaxFile)
	noPaths = []string{"", "/", ".", "..", "a/", "/a", "a//b", "./a", "a/.", "a/../b", "../a", "a b", "a\\b", "é", "a\n", "\x00", "a/\xff", part20 + "1", "a/" + part20 + "1", tooLong, full + "x"}
	somehow = []string{"a", "c.h", "a/c.h", "A_9/-x", "...", "..a/a..", "-", "_", part20, part20 + "/" + part20, longest}
)

func table(t *testing.T, dirs ...string) *files.Table {
	t.Helper()
	f, e := files.New(dirs)
	if e != api.OK || f == nil {
		t.Fatalf("P3.1: New(%q): got %v, error %d, want a table", dirs, f, e)
	}
	return f
}

func answers(t *testing.T, what string, got, want api.Errno) {
	t.Helper()
	if got != want {
		t.Errorf("%s: got error %d, want %d", what, got, want)
	}
}

func ok(t *testing.T, e api.Errno) {
	t.Helper()
	if e != api.OK {
		t.Fatalf("got error %d, want none", e)
	}
}

func holds(t *testing.T, f *files.Table, path, want string) {
	t.Helper()
	r, there := f.Get(path)
	if !there || r == nil || r.Text() != want {
		t.Errorf("P3.1: Get(%.80q): got %.80q, %v, want %.80q", path, r.Text(), there, want)
	}
}

func lacks(t *testing.T, f *files.Table, path string) {
	t.Helper()
	if r, there := f.Get(path); there || r != nil {
		t.Errorf("P3.1: Get(%.80q): got %v, %v, want none", path, r, there)
	}
	if slices.Contains(f.Names(), path) {
		t.Errorf("P3.1: Names: got %.80q, that is not there", path)
	}
}

func version(t *testing.T, f *files.Table, path string, want int) {
	t.Helper()
	if got := f.Version(path); got != want {
		t.Errorf("P3.1: Version(%.80q): got %d, want %d", path, got, want)
	}
}

func finds(t *testing.T, f *files.Table, from, name string, quote bool, want string) {
	t.Helper()
	if got, there := f.Find(from, name, quote); got != want || there != (want != "") {
		t.Errorf("P3.2: Find(%.80q, %.80q, %v): got %q, %v, want %q", from, name, quote, got, there, want)
	}
}

// made is a table of empty files.
func made(t *testing.T, dirs []string, names ...string) *files.Table {
	t.Helper()
	f := table(t, dirs...)
	for _, name := range names {
		ok(t, f.Create(name, ""))
	}
	return f
}

// fill makes files till as many are there as may be.
func fill(t *testing.T, f *files.Table) {
	t.Helper()
	for n := len(f.Names()); n < api.MaxFiles; n++ {
		ok(t, f.Create("fill/"+strconv.Itoa(n), strconv.Itoa(n)))
	}
}

func TestNew(t *testing.T) {
	f := table(t)
	if got := f.Names(); len(got) != 0 {
		t.Errorf("P3.1: New: got files %q", got)
	}
	for n := range 15 {
		for _, dir := range []string{"", "a", "a/b.c", longest} {
			dirs := make([]string, n)
			for i := range dirs {
				dirs[i] = dir
			}
			got, e := files.New(dirs)
			if n <= 10 && (e != api.OK || got == nil) || n > 10 && (e != api.ErrArg || got != nil) {
				t.Errorf("P3.1: New of %d %q: got %v, error %d", n, dir, got, e)
			}
		}
	}
}

func TestNewOfNoDirectory(t *testing.T) {
	for _, bad := range noPaths {
		if bad == "" {
			continue // a directory
		}
		for n := 1; n <= 11; n++ {
			for at := range n {
				dirs := make([]string, n)
				dirs[at] = bad
				if got, e := files.New(dirs); e != api.ErrArg || got != nil {
					t.Errorf("P3.1: New of %.80q at %d of %d: got %v, error %d, want ErrArg", bad, at, n, got, e)
				}
			}
		}
	}
	for _, dir := range somehow {
		table(t, dir)
		table(t, "", dir, "b")
	}
}

func TestCreate(t *testing.T) {
	f := table(t)
	for n, path := range somehow {
		text := strings.Repeat("é\x00\n", n)
		version(t, f, path, 0)
		lacks(t, f, path)
		answers(t, "P3.1: Create", f.Create(path, text), api.OK)
		holds(t, f, path, text)
		version(t, f, path, 1)
		if got := f.Names(); len(got) != n+1 {
			t.Errorf("P3.1: Names: got %q, want %d", got, n+1)
		}
	}
	for _, path := range noPaths {
		answers(t, "P3.1: Create of no path", f.Create(path, ""), api.ErrArg)
		lacks(t, f, path)
		version(t, f, path, 0)
	}
	for n, path := range somehow {
		answers(t, "P3.1: Create of one that is there", f.Create(path, "new"), api.ErrThere)
		holds(t, f, path, strings.Repeat("é\x00\n", n))
		version(t, f, path, 1)
	}
}

// TestPathsAsTheyStand: a path means itself, whatever 2's Clean would make of it.
func TestPathsAsTheyStand(t *testing.T) {
	f := made(t, nil, "a/x")
	for _, path := range []string{"/a/x", "./a/x", "a//x", "a/./x", "a/b/../x", "a/x/", "A/x", "a/X", "x", "a"} {
		lacks(t, f, path)
		version(t, f, path, 0)
		answers(t, "P3.1: Insert", f.Insert(path, 0, "x"), api.ErrNone)
		answers(t, "P3.1: Delete", f.Delete(path, 0, 0), api.ErrNone)
		answers(t, "P3.1: Remove", f.Remove(path), api.ErrNone)
	}
	holds(t, f, "a/x", "")
	version(t, f, "a/x", 1)
}

func TestFilesLimit(t *testing.T) {
	f := table(t)
	for n := range api.MaxFiles {
		answers(t, "P3.1: Create of few enough", f.Create("f"+strconv.Itoa(n), ""), api.OK)
		answers(t, "P3.1: Create again", f.Create("f"+strconv.Itoa(n), ""), api.ErrThere)
	}
	for n := range 10 {
		answers(t, "P3.1: Create of one more", f.Create("g"+strconv.Itoa(n), ""), api.ErrBig)
		version(t, f, "g"+strconv.Itoa(n), 0)
	}
	if got := f.Names(); len(got) != 50 {
		t.Errorf("P3.1: Names: got %d of them, want 50", len(got))
	}
	ok(t, f.Insert("f7", 0, "x"))
	ok(t, f.Delete("f7", 0, 1))
	ok(t, f.Remove("f7"))
	answers(t, "P3.1: Remove again", f.Remove("f7"), api.ErrNone)
	answers(t, "P3.1: Create of the last that may be", f.Create("g", ""), api.OK)
	answers(t, "P3.1: Create of one that was removed", f.Create("f7", ""), api.ErrBig)
	version(t, f, "f7", 4)
}

// TestLimitIsOfThoseThere: files that were there do not count.
func TestLimitIsOfThoseThere(t *testing.T) {
	f := table(t)
	for n := range 5 * api.MaxFiles {
		ok(t, f.Create("old"+strconv.Itoa(n), "x"))
		ok(t, f.Remove("old"+strconv.Itoa(n)))
	}
	fill(t, f)
	answers(t, "P3.1: Create of one more", f.Create("more", ""), api.ErrBig)
	for range 10 {
		ok(t, f.Remove("fill/3"))
		ok(t, f.Create("fill/3", ""))
		answers(t, "P3.1: Create of one more", f.Create("more", ""), api.ErrBig)
	}
	version(t, f, "fill/3", 21)
	version(t, f, "old0", 2)
}

func TestTextLimit(t *testing.T) {
	f := table(t)
	for _, n := range []int{api.MaxFile + 1, api.MaxFile + 2, 3 * api.MaxFile} {
		answers(t, "P3.1: Create of too long a text", f.Create("big", strings.Repeat("x", n)), api.ErrBig)
		lacks(t, f, "big")
		version(t, f, "big", 0)
	}
	answers(t, "P3.1: Create of a text as long as may be", f.Create("big", full), api.OK)
	holds(t, f, "big", full)
	for _, at := range []int{0, 1, api.MaxFile / 2, api.MaxFile} {
		answers(t, "P3.1: Insert of one more", f.Insert("big", at, "y"), api.ErrBig)
		answers(t, "P3.1: Insert of none", f.Insert("big", at, ""), api.OK)
	}
	answers(t, "P3.1: Insert of one more, behind the end", f.Insert("big", api.MaxFile+1, "y"), api.ErrArg)
	holds(t, f, "big", full)
	version(t, f, "big", 5)
	ok(t, f.Delete("big", 10, 12))
	answers(t, "P3.1: Insert of too many", f.Insert("big", 10, "abc"), api.ErrBig)
	answers(t, "P3.1: Insert of as many as may be", f.Insert("big", 10, "ab"), api.OK)
	holds(t, f, "big", full[:10]+"ab"+full[12:])
	version(t, f, "big", 7)
}

// TestWhichErrorFirst: where two or more would do.
func TestWhichErrorFirst(t *testing.T) {
	f := made(t, nil, "a")
	big := full + "x"
	answers(t, "P3.1: no path, a big text", f.Create("a/", big), api.ErrArg)
	answers(t, "P3.1: there, a big text", f.Create("a", big), api.ErrThere)
	fill(t, f)
	for _, path := range noPaths {
		for _, text := range []string{"", big} {
			answers(t, "P3.1: no path, 50 files", f.Create(path, text), api.ErrArg)
		}
	}
	for _, text := range []string{"", big} {
		answers(t, "P3.1: there, 50 files", f.Create("a", text), api.ErrThere)
		answers(t, "P3.1: 50 files", f.Create("b", text), api.ErrBig)
	}
	for _, path := range append(noPaths, "b") {
		answers(t, "P3.1: Insert: none", f.Insert(path, -1, big), api.ErrNone)
		answers(t, "P3.1: Delete: none", f.Delete(path, 1, 0), api.ErrNone)
		answers(t, "P3.1: Remove: none", f.Remove(path), api.ErrNone)
	}
	answers(t, "P3.1: Insert: a place that is none, a big text", f.Insert("a", 1, big), api.ErrArg)
	answers(t, "P3.1: Insert: a big text", f.Insert("a", 0, big), api.ErrBig)
}

func TestPlaces(t *testing.T) {
	for _, text := range []string{"", "a", "ab\ncd", full[:300]} {
		n := len(text)
		for at := range n + 1 {
			f := table(t)
			ok(t, f.Create("a", text))
			answers(t, "P3.1: Insert", f.Insert("a", at, "-\n"), api.OK)
			holds(t, f, "a", text[:at]+"-\n"+text[at:])
			answers(t, "P3.1: Delete", f.Delete("a", at/2, at+2), api.OK)
			holds(t, f, "a", text[:at/2]+text[at:])
			version(t, f, "a", 3)
		}
		f := table(t)
		ok(t, f.Create("a", text))
		for _, at := range []int{math.MinInt, -1, n + 1, n + 2, math.MaxInt} {
			for _, put := range []string{"", "x"} {
				answers(t, "P3.1: Insert outside", f.Insert("a", at, put), api.ErrArg)
			}
		}
		for _, span := range [][2]int{{-1, 0}, {-1, -1}, {0, -1}, {0, n + 1}, {n, n + 1}, {n + 1, n + 1}, {n + 1, n}, {n, n - 1}, {1, 0}, {math.MinInt, math.MaxInt}, {math.MaxInt, math.MinInt}} {
			answers(t, "P3.1: Delete outside", f.Delete("a", span[0], span[1]), api.ErrArg)
		}
		holds(t, f, "a", text)
		version(t, f, "a", 1)
		answers(t, "P3.1: Delete of nothing", f.Delete("a", n, n), api.OK)
		answers(t, "P3.1: Delete of all", f.Delete("a", 0, n), api.OK)
		holds(t, f, "a", "")
		version(t, f, "a", 3)
	}
}

func TestRemoveAndCreateAgain(t *testing.T) {
	f := table(t)
	answers(t, "P3.1: Remove of none", f.Remove("a"), api.ErrNone)
	version(t, f, "a", 0)
	for n := range 10 {
		text := strconv.Itoa(n)
		answers(t, "P3.1: Create", f.Create("a", text), api.OK)
		holds(t, f, "a", text)
		version(t, f, "a", 2*n+1)
		answers(t, "P3.1: Remove", f.Remove("a"), api.OK)
		lacks(t, f, "a")
		version(t, f, "a", 2*n+2)
		answers(t, "P3.1: Remove again", f.Remove("a"), api.ErrNone)
		answers(t, "P3.1: Insert behind Remove", f.Insert("a", 0, "x"), api.ErrNone)
		answers(t, "P3.1: Delete behind Remove", f.Delete("a", 0, 0), api.ErrNone)
		version(t, f, "a", 2*n+2)
	}
}

func TestVersion(t *testing.T) {
	f := table(t)
	want := 0
	does := func(e, as api.Errno) {
		t.Helper()
		answers(t, "P3.1", e, as)
		if as == api.OK {
			want++
		}
		version(t, f, "a", want)
		version(t, f, "b", 0)
		version(t, f, "", 0)
	}
	does(f.Insert("a", 0, "x"), api.ErrNone)
	does(f.Create("a", full+"x"), api.ErrBig)
	does(f.Create("a", "xy"), api.OK)
	does(f.Create("a", ""), api.ErrThere)
	does(f.Insert("a", 0, ""), api.OK) // that changes no byte, but was OK
	does(f.Insert("a", 3, ""), api.ErrArg)
	does(f.Insert("a", 2, full), api.ErrBig)
	does(f.Insert("a", 2, "z"), api.OK)
	does(f.Delete("a", 2, 1), api.ErrArg)
	does(f.Delete("a", 1, 1), api.OK)
	does(f.Delete("a", 0, 3), api.OK)
	does(f.Delete("b", 0, 0), api.ErrNone)
	does(f.Remove("b"), api.ErrNone)
	does(f.Remove("a"), api.OK)
	does(f.Remove("a"), api.ErrNone)
	does(f.Create("a", ""), api.OK)
	f.Get("a")
	f.Names()
	f.Find("a", "a", true)
	f.Version("a")
	does(f.Create("a", ""), api.ErrThere)
	if want != 7 {
		t.Errorf("the test counts %d", want)
	}
}

func TestNamesByBytes(t *testing.T) {
	want := []string{"-", "...", "0", "9a", "A", "Z", "_", "a", "a-b", "a.c", "a/b", "a/b.c", "a/b/c", "a0", "aB", "a_", "aa", "b", "z.h", "z/a"}
	for start := range want { // made in different orders
		f := table(t)
		for n := range want {
			ok(t, f.Create(want[(start+n*7)%len(want)], ""))
		}
		if got := f.Names(); !slices.Equal(got, want) {
			t.Errorf("P3.1: Names: got %q, want %q", got, want)
		}
		ok(t, f.Remove("a.c"))
		if got := f.Names(); slices.Contains(got, "a.c") || len(got) != len(want)-1 || !sort.StringsAreSorted(got) {
			t.Errorf("P3.1: Names: got %q", got)
		}
	}
}

func TestFindExample(t *testing.T) {
	f := made(t, nil, "a/x.c")
	finds(t, f, "a/x.c", "y.h", true, "")
	ok(t, f.Create("a/y.h", ""))
	finds(t, f, "a/x.c", "y.h", true, "a/y.h")
	ok(t, f.Remove("a/y.h"))
	finds(t, f, "a/x.c", "y.h", true, "")
}

func TestFindOrder(t *testing.T) {
	f := made(t, []string{"one", "two", "", "one/deep"}, "a/x.c", "x.h", "a/x.h", "one/x.h", "two/x.h", "one/deep/x.h", "two/only.h", "one/deep/last.h")
	finds(t, f, "a/x.c", "x.h", true, "a/x.h")
	finds(t, f, "a/x.c", "x.h", false, "one/x.h")
	finds(t, f, "x.c", "x.h", true, "x.h")
	finds(t, f, "", "x.h", true, "x.h")
	finds(t, f, "x.c", "x.h", false, "one/x.h")
	finds(t, f, "b/x.c", "x.h", true, "one/x.h") // no file beside it
	finds(t, f, "two/q", "x.h", true, "two/x.h")
	finds(t, f, "one/deep/q", "x.h", true, "one/deep/x.h")
	finds(t, f, "one/x.h", "only.h", true, "two/only.h")
	finds(t, f, "a/x.c", "last.h", false, "one/deep/last.h")
	finds(t, f, "a/x.c", "deep/x.h", true, "one/deep/x.h")
	finds(t, f, "a/x.c", "none.h", true, "")
	finds(t, f, "a/x.c", "none.h", false, "")
	finds(t, f, "a/x.c", "x.c", false, "")
	finds(t, f, "a/x.c", "x.c", true, "a/x.c")
	finds(t, f, "a/x.c", "a/x.c", false, "a/x.c")
	for _, gone := range []struct{ path, next string }{{"one/x.h", "two/x.h"}, {"two/x.h", "x.h"}, {"x.h", "one/deep/x.h"}, {"one/deep/x.h", ""}} {
		ok(t, f.Remove(gone.path))
		finds(t, f, "b/x.c", "x.h", true, gone.next)
		finds(t, f, "b/x.c", "x.h", false, gone.next)
		finds(t, f, "a/x.c", "x.h", true, "a/x.h")
	}
}

func TestFindWithoutDirectories(t *testing.T) {
	f := made(t, nil, "x.h", "a/y.h")
	for _, name := range []string{"x.h", "/x.h", "a/y.h", "y.h", "../x.h"} {
		finds(t, f, "a/x.c", name, false, "")
	}
	finds(t, f, "x.c", "x.h", true, "x.h")
	finds(t, f, "a/x.c", "x.h", true, "")
	finds(t, f, "a/x.c", "../x.h", true, "x.h")
	finds(t, f, "a/x.c", "/x.h", true, "x.h")
	finds(t, f, "a/x.c", "./y.h", true, "a/y.h")
	finds(t, f, "no/such/file", "../../a/y.h", true, "a/y.h") // where it is asked from need not be there
}

// TestFindOfRoot: names that begin with '/'.
func TestFindOfRoot(t *testing.T) {
	f := made(t, []string{"inc"}, "x.h", "a/x.h", "inc/y.h", "inc/z.h", "z.h")
	for _, quote := range []bool{true, false} {
		finds(t, f, "a/x.c", "/x.h", quote, "x.h")
		finds(t, f, "a/x.c", "//a/x.h", quote, "a/x.h")
		finds(t, f, "a/x.c", "/inc/../x.h", quote, "x.h")
		finds(t, f, "a/x.c", "/z.h", quote, "z.h")
		finds(t, f, "a/x.c", "/y.h", quote, "") // no directory helps
		finds(t, f, "a/x.c", "/inc/y.h", quote, "inc/y.h")
		finds(t, f, "../..", "/x.h", quote, "x.h")
		finds(t, f, "a/x.c", "/", quote, "")
		finds(t, f, "a/x.c", "/../x.h", quote, "")
	}
}

// TestFindGoesUp: one that leads above the first part is none, and the next one is looked at.
func TestFindGoesUp(t *testing.T) {
	f := made(t, []string{"", "inc", "inc/deep"}, "x.h", "inc/x.h", "y.h", "inc/y.h")
	finds(t, f, "a/x.c", "../x.h", true, "x.h")
	finds(t, f, "x.c", "../x.h", true, "x.h")       // ../x.h twice, then inc/../x.h
	finds(t, f, "a/x.c", "../../x.h", true, "x.h")  // inc/deep/../../x.h
	finds(t, f, "a/x.c", "../../x.h", false, "x.h") // so, too
	finds(t, f, "a/x.c", "../../../x.h", true, "")  // above all of them
	finds(t, f, "a/x.c", "../../../x.h", false, "") // so, too
	finds(t, f, "../q", "x.h", true, "x.h")         // beside it is none, but in the first directory
	finds(t, f, "../q", "y.h", false, "y.h")        // it is not asked
	finds(t, f, "a/../../q", "inc/y.h", true, "inc/y.h")
	finds(t, f, "a/b/../q", "../x.h", true, "x.h")
	finds(t, f, "a/b/../q", "../inc/./x.h", true, "inc/x.h")
	only := made(t, []string{"inc"}, "x.h", "inc/x.h")
	finds(t, only, "../q", "x.h", true, "inc/x.h")
	finds(t, only, "q", "../x.h", true, "x.h")
	finds(t, only, "q", "../../x.h", true, "")
}

// TestFindOfAnyTexts: names and places that 2 makes no path of are no fault.
func TestFindOfAnyTexts(t *testing.T) {
	f := made(t, []string{"inc", ""}, "x.h", "a/x.h", "inc", part20, longest)
	for _, bad := range []string{"a b", "é", "\x00", "\xff", part20 + "1", tooLong, full + "/", "a\\x.h", "x.h ", "X.H"} {
		finds(t, f, "a/x.c", bad, true, "")
		finds(t, f, "a/x.c", bad, false, "")
		finds(t, f, bad+"/q", "x.h", true, "x.h")
		finds(t, f, bad+"/q", "../a/x.h", true, "a/x.h")
	}
	finds(t, f, "a/x.c", "", true, "inc") // a is not there, inc is
	finds(t, f, "a/x.c", ".", false, "inc")
	finds(t, f, "inc/x.c", "", true, "inc")
	finds(t, f, "q", "..", true, "")
	finds(t, f, "a/x.c", part20, false, part20)
	finds(t, f, "a/x.c", longest, true, longest)
	finds(t, f, "a/x.c", longest, false, longest)
	finds(t, f, "/a/q", "x.h", true, "a/x.h")
	finds(t, f, "a//q", "x.h", true, "a/x.h")
	finds(t, f, "a/", "x.h", true, "a/x.h")
	finds(t, f, "a", "x.h", true, "x.h")
}

// TestFindOfAnyTables holds Find against all the paths that there could be, written down.
func TestFindOfAnyTables(t *testing.T) {
	seed := uint64(4)
	of := func(list []string) string {
		seed = seed*6364136223846793005 + 1442695040888963407
		return list[seed>>33%uint64(len(list))]
	}
	places := []string{"", "a", "b", "a/b", "a/b/a", "c"}
	leaves := []string{"x", "y", "a", "b", "b/x", "../x", "../../y", "../b/x", "/x", "/a/x", "./y", "", ".", "..", "x y", "../../../x"}
	found := 0
	for range 3000 {
		var dirs []string
		for len(dirs) < 10 && of(leaves) < "a" {
			dirs = append(dirs, of(places))
		}
		f := table(t, dirs...)
		for range 4 {
			path, e := paths.Join(of(places), of(leaves))
			if e == api.OK && f.Create(path, "") == api.OK && of(leaves) == "x" {
				ok(t, f.Remove(path))
			}
		}
		dir, name := of(places), of(leaves)
		want := firstThere(f.Names(), dirs, name)
		finds(t, f, dir+"/q.c", name, false, want)
		want = firstThere(f.Names(), append([]string{dir}, dirs...), name)
		finds(t, f, dir+"/q.c", name, true, want)
		if want != "" {
			found++
		}
	}
	if found < 300 {
		t.Errorf("the test found too few: %d", found)
	}
}

func firstThere(names, dirs []string, name string) string {
	for _, dir := range dirs {
		if path, e := paths.Join(dir, name); e == api.OK && slices.Contains(names, path) {
			return path
		}
	}
	return ""
}

func TestNilTable(t *testing.T) {
	var f *files.Table
	for _, path := range append(noPaths, somehow...) {
		answers(t, "P3.2: nil: Create", f.Create(path, ""), api.ErrNone)
		answers(t, "P3.2: nil: Create", f.Create(path, full+"x"), api.ErrNone)
		answers(t, "P3.2: nil: Remove", f.Remove(path), api.ErrNone)
		answers(t, "P3.2: nil: Insert", f.Insert(path, -1, "x"), api.ErrNone)
		answers(t, "P3.2: nil: Delete", f.Delete(path, 1, 0), api.ErrNone)
		version(t, f, path, 0)
		lacks(t, f, path)
		for _, quote := range []bool{true, false} {
			finds(t, f, path, path, quote, "")
		}
	}
	if got := f.Names(); len(got) != 0 {
		t.Errorf("P3.2: nil: Names: got %q", got)
	}
}

// TestTableOfNoNew: one that New did not make goes, too.
func TestTableOfNoNew(t *testing.T) {
	f := &files.Table{}
	lacks(t, f, "a")
	version(t, f, "a", 0)
	finds(t, f, "a", "a", true, "")
	answers(t, "Remove", f.Remove("a"), api.ErrNone)
	answers(t, "Insert", f.Insert("a", 0, ""), api.ErrNone)
	answers(t, "Delete", f.Delete("a", 0, 0), api.ErrNone)
	answers(t, "Create", f.Create("a", "x"), api.OK)
	holds(t, f, "a", "x")
	finds(t, f, "b", "a", true, "a")
	finds(t, f, "b", "a", false, "")
}

func TestTablesApart(t *testing.T) {
	dirs := []string{"inc"}
	a, b := table(t, dirs...), table(t, dirs...)
	ok(t, a.Create("x", "a"))
	lacks(t, b, "x")
	version(t, b, "x", 0)
	ok(t, b.Create("x", "b"))
	ok(t, b.Insert("x", 1, "!"))
	holds(t, a, "x", "a")
	version(t, a, "x", 1)
	fill(t, a)
	ok(t, b.Create("y", ""))
	ok(t, a.Remove("x"))
	holds(t, b, "x", "b!")
}

// TestHandedInStays: what is handed in is not changed, and not kept.
func TestHandedInStays(t *testing.T) {
	room := []string{"one", "two", "three", "four"}
	f := table(t, room[:2]...)
	if !slices.Equal(room, []string{"one", "two", "three", "four"}) {
		t.Errorf("P3.3: New changed its dirs to %q", room)
	}
	for _, name := range []string{"one/x", "two/y", "three/x", "four/y"} {
		ok(t, f.Create(name, ""))
	}
	room[0], room[1] = "three", "four"
	finds(t, f, "", "x", false, "one/x")
	finds(t, f, "", "y", false, "two/y")
}

// TestHandedInIsNotKept: not the bytes of the texts either. (They are changed here behind the language's back.)
func TestHandedInIsNotKept(t *testing.T) {
	bytes := []byte("inc inc/x abcd new")
	piece := func(from, to int) string { return unsafe.String(&bytes[from], to-from) }
	f := table(t, piece(0, 3))
	ok(t, f.Create(piece(4, 9), piece(10, 14)))
	ok(t, f.Insert(piece(4, 9), 1, piece(15, 18)))
	ok(t, f.Delete(piece(4, 9), 0, 1))
	ok(t, f.Remove(piece(4, 9)))
	ok(t, f.Create(piece(4, 9), piece(10, 14)))
	ok(t, f.Insert(piece(4, 9), 1, piece(15, 18)))
	found, _ := f.Find(piece(0, 3), piece(8, 9), false)
	for i := range bytes {
		bytes[i] = '?'
	}
	if got := f.Names(); !slices.Equal(got, []string{"inc/x"}) || found != "inc/x" {
		t.Errorf("P3.3: got %q, %q", got, found)
	}
	holds(t, f, "inc/x", "anewbcd")
	version(t, f, "inc/x", 6)
	finds(t, f, "", "x", false, "inc/x")
}

func TestAnswersStay(t *testing.T) {
	f := made(t, []string{"inc"}, "inc/x", "y")
	ok(t, f.Insert("y", 0, "old"))
	names, again := f.Names(), f.Names()
	old, _ := f.Get("y")
	names[0] = "changed"
	_ = append(again[:1], "put")
	if got := f.Names(); !slices.Equal(got, []string{"inc/x", "y"}) {
		t.Errorf("P3.3: Names: got %q, as an answer was changed", got)
	}
	names = f.Names()
	ok(t, f.Insert("y", 3, "er"))
	holds(t, f, "y", "older")
	ok(t, f.Delete("y", 0, 1))
	ok(t, f.Remove("y"))
	ok(t, f.Create("y", "new"))
	ok(t, f.Create("a", ""))
	if old.Text() != "old" || !slices.Equal(names, []string{"inc/x", "y"}) {
		t.Errorf("P3.3: got %q, %q: a later call changed what was answered", old.Text(), names)
	}
	r, e := old.Insert(0, "b")
	if e != api.OK || r.Text() != "bold" {
		t.Errorf("P3.3: got %q, error %d", r.Text(), e)
	}
	holds(t, f, "y", "new")
}

// state is all that a table tells.
type state struct {
	names    []string
	texts    []string
	versions []int
	found    []string
}

var (
	asked = []string{"a", "b", "a/x", "a/y.h", "inc/y.h", "y.h", "inc/a/x", "...", "-", "B", "_", "a/", "", "..", "a b", "never"}
	froms = []string{"", "q", "a/q", "inc/q", "../q", "a/../q"}
)

func stateOf(f *files.Table) state {
	s := state{names: f.Names()}
	for _, path := range asked {
		r, there := f.Get(path)
		s.texts = append(s.texts, strconv.FormatBool(there)+r.Text())
		s.versions = append(s.versions, f.Version(path))
		for _, from := range froms {
			for _, quote := range []bool{true, false} {
				found, there := f.Find(from, path, quote)
				s.found = append(s.found, strconv.FormatBool(there)+found)
			}
		}
	}
	return s
}

func (s state) same(other state) bool {
	return slices.Equal(s.names, other.names) && slices.Equal(s.texts, other.texts) && slices.Equal(s.versions, other.versions) && slices.Equal(s.found, other.found)
}

func TestRefusedChangesNothing(t *testing.T) {
	f := made(t, []string{"inc", ""}, "a/x", "y.h", "inc/y.h", "gone")
	ok(t, f.Insert("y.h", 0, "int y;\n"))
	ok(t, f.Remove("gone"))
	for range 2 {
		before := stateOf(f)
		refused := map[string]api.Errno{
			"Create of no path":  f.Create("a/", "x"),
			"Create of one":      f.Create("y.h", "x"),
			"Create of a big":    f.Create("b", full+"x"),
			"Remove of none":     f.Remove("b"),
			"Remove of gone":     f.Remove("gone"),
			"Insert in none":     f.Insert("b", 0, "x"),
			"Insert in gone":     f.Insert("gone", 0, "x"),
			"Insert behind":      f.Insert("y.h", 8, "x"),
			"Insert ahead":       f.Insert("y.h", -1, "x"),
			"Insert of a big":    f.Insert("y.h", 7, full),
			"Delete of none":     f.Delete("b", 0, 0),
			"Delete of gone":     f.Delete("gone", 0, 0),
			"Delete behind":      f.Delete("y.h", 0, 8),
			"Delete ahead":       f.Delete("y.h", -1, 3),
			"Delete of no order": f.Delete("y.h", 4, 3),
		}
		for what, e := range refused {
			if e == api.OK {
				t.Errorf("P3.3: %s: want an error", what)
			}
		}
		if after := stateOf(f); !after.same(before) {
			t.Errorf("P3.3: got %v, want %v", after, before)
		}
		fill(t, f)
		before = stateOf(f)
		answers(t, "P3.3: Create of one more", f.Create("b", ""), api.ErrBig)
		if after := stateOf(f); !after.same(before) {
			t.Errorf("P3.3: got %v, want %v", after, before)
		}
	}
}

// model is the oracle: plain texts, and a list of all that was done.
type model struct {
	texts map[string]string
	log   []string
}

func (m *model) did(path, text string) api.Errno {
	m.texts[path] = text
	m.log = append(m.log, path)
	return api.OK
}

func (m *model) create(path, text string, isPath bool) api.Errno {
	_, there := m.texts[path]
	switch {
	case !isPath:
		return api.ErrArg
	case there:
		return api.ErrThere
	case len(m.texts) == 50, len(text) > 65536:
		return api.ErrBig
	}
	return m.did(path, text)
}

func (m *model) remove(path string) api.Errno {
	if _, there := m.texts[path]; !there {
		return api.ErrNone
	}
	m.did(path, "")
	delete(m.texts, path)
	return api.OK
}

func (m *model) replace(path string, from, to int, text string) api.Errno {
	old, there := m.texts[path]
	switch {
	case !there:
		return api.ErrNone
	case from < 0 || from > to || to > len(old):
		return api.ErrArg
	case len(old)-(to-from)+len(text) > 65536:
		return api.ErrBig
	}
	return m.did(path, old[:from]+text+old[to:])
}

func (m *model) agrees(t *testing.T, f *files.Table, all []string) {
	t.Helper()
	var names []string
	for _, path := range all {
		count := 0
		for _, done := range m.log {
			if done == path {
				count++
			}
		}
		version(t, f, path, count)
		if text, there := m.texts[path]; there {
			names = append(names, path)
			holds(t, f, path, text)
		} else {
			lacks(t, f, path)
		}
	}
	sort.Strings(names)
	if got := f.Names(); !slices.Equal(got, names) {
		t.Fatalf("P3.1: Names: got %q, want %q", got, names)
	}
}

// TestAgainstModel: many calls, of which many are refused.
func TestAgainstModel(t *testing.T) {
	seed := uint64(3)
	below := func(n int) int {
		seed = seed*6364136223846793005 + 1442695040888963407
		return int(seed >> 33 % uint64(n))
	}
	all := []string{"a/", "", "a b"}
	for n := range 60 {
		all = append(all, strings.Repeat("z/", n/20)+strconv.Itoa(n)+".h")
	}
	f, m := table(t), &model{texts: map[string]string{}}
	letters := strings.Repeat("abcdefgh\nijklmno\x00pqr", 10)
	seen, tooBig := map[api.Errno]int{}, 0
	for step := range 12000 {
		n := below(len(all))
		path, text := all[n], letters[below(20):][:below(1+below(100))]
		if below(30) == 0 {
			text = strings.Repeat("y", api.MaxFile-100+below(130))
		}
		size := len(m.texts[path])
		from, to := below(size+3)-1, below(size+3)-1
		var got, want api.Errno
		switch below(9 + step/2000%2*6) { // more of them are made, and then removed
		case 0, 1, 2, 3, 4:
			got, want = f.Create(path, text), m.create(path, text, n >= 3)
		case 5, 6:
			got, want = f.Insert(path, from, text), m.replace(path, from, from, text)
		case 7:
			got, want = f.Delete(path, from, to), m.replace(path, from, to, "")
		default:
			got, want = f.Remove(path), m.remove(path)
		}
		if got != want {
			t.Fatalf("P3.1: step %d, %q: got error %d, want %d", step, path, got, want)
		}
		seen[want]++
		if want == api.ErrBig && len(m.texts) < 50 {
			tooBig++
		}
		if step%100 == 0 {
			m.agrees(t, f, all)
		}
	}
	m.agrees(t, f, all)
	if min(seen[api.OK], seen[api.ErrArg], seen[api.ErrNone], seen[api.ErrThere], tooBig, seen[api.ErrBig]-tooBig) < 20 {
		t.Errorf("the test saw too few of some error: %v, %d texts too big", seen, tooBig)
	}
}

// TestGetIsARope: that goes on by itself.
func TestGetIsARope(t *testing.T) {
	f := table(t)
	ok(t, f.Create("a", "x\ny"))
	var r *rope.Rope
	r, _ = f.Get("a")
	if r.Lines() != 2 || r.Len() != 3 {
		t.Errorf("P3.1: Get: got %d lines, %d bytes", r.Lines(), r.Len())
	}
	ok(t, f.Create("empty", ""))
	if r, there := f.Get("empty"); r == nil || !there || r.Len() != 0 {
		t.Errorf("P3.1: Get of an empty file: got %v, %v", r, there)
	}
}
