package paths_test

import (
	"regexp"
	"strings"
	"testing"

	"oxbow/api"
	"oxbow/paths"
)

const part20 = "abcdefghijKLMNOP-_.9"

// ofLength is a path of n bytes, with parts as long as they may be.
func ofLength(n int) string {
	text := strings.Repeat(part20+"/", n/21+1)[:n]
	if strings.HasSuffix(text, "/") { // no part stands behind it: one of a letter, and the one ahead shorter by one
		text = text[:n-2] + "/z"
	}
	return text
}

// anyOf is each text of at most n of these bytes.
func anyOf(bytes string, n int, see func(text string)) {
	var put func(text string)
	put = func(text string) {
		see(text)
		if len(text) == n {
			return
		}
		for i := range len(bytes) {
			put(text + bytes[i:i+1])
		}
	}
	put("")
}

// The oracle: expressions and rewriting, where the program has lists.
var (
	parts   = regexp.MustCompile(`^[a-zA-Z0-9._-]{1,20}(/[a-zA-Z0-9._-]{1,20})*$`)
	dots    = regexp.MustCompile(`(^|/)\.\.?(/|$)`)
	nothing = regexp.MustCompile(`//|/\./`)
	climb   = regexp.MustCompile(`^((?s:.*?))/[^/]+/\.\./`)
)

func wantValid(p string) bool {
	return len(p) <= 80 && parts.MatchString(p) && !dots.MatchString(p)
}

func wantClean(p string) (string, api.Errno) {
	text := "/" + p + "/"
	for nothing.MatchString(text) {
		text = nothing.ReplaceAllString(text, "/")
	}
	for strings.Contains(text, "/../") {
		if strings.HasPrefix(text, "/../") {
			return "", api.ErrArg
		}
		text = climb.ReplaceAllString(text, "$1/") // the first one of them takes the one ahead of it, which is none itself
	}
	text = strings.Trim(text, "/")
	if !wantValid(text) {
		return "", api.ErrArg
	}
	return text, api.OK
}

func valid(t *testing.T, p string, want bool) {
	t.Helper()
	if got := paths.Valid(p); got != want {
		t.Errorf("P2.1: Valid(%q): got %v, want %v", p, got, want)
	}
}

func clean(t *testing.T, p, want string, wantErr api.Errno) {
	t.Helper()
	if got, e := paths.Clean(p); got != want || e != wantErr {
		t.Errorf("P2.1: Clean(%q): got %q, error %d, want %q, error %d", p, got, e, want, wantErr)
	}
}

func join(t *testing.T, dir, p, want string, wantErr api.Errno) {
	t.Helper()
	if got, e := paths.Join(dir, p); got != want || e != wantErr {
		t.Errorf("P2.1: Join(%q, %q): got %q, error %d, want %q, error %d", dir, p, got, e, want, wantErr)
	}
}

func same(t *testing.T, p string) {
	t.Helper()
	if got, e := paths.Clean(p); got != p || e != api.OK {
		t.Errorf("P2.2: Clean(%q): got %q, error %d, want itself", p, got, e)
	}
}

func TestValidBytes(t *testing.T) {
	const allowed = "abcdefghijklmnopqrstuvwxyzABCDEFGHIJKLMNOPQRSTUVWXYZ0123456789.-_"
	for c := range 256 {
		one := string([]byte{byte(c)})
		want := strings.Contains(allowed, one)
		valid(t, one, want && one != ".")
		for _, p := range []string{one + "x", "x" + one + "y", "dir/x" + one, "x" + one + "/c.h"} {
			valid(t, p, want || p == "x//y" || p == "x/y")
		}
	}
	for _, p := range []string{"é", "a/é.h", "\u0130", "a\xff", "a\n", "a\r\n", "a\x00", "a\\b", "a b", "c:d", "a/b*", "~", "a+b", "a,b", "a@b", "a[", "a`b", "a{"} {
		valid(t, p, false)
	}
}

func TestValidParts(t *testing.T) {
	for n := range 26 {
		for _, letter := range []string{"a", "_", "7"} {
			part := strings.Repeat(letter, n)
			want := 1 <= n && n <= 20
			valid(t, part, want)
			valid(t, "dir/"+part, want)
			valid(t, part+"/c.h", want)
			valid(t, "dir/"+part+"/c.h", want)
		}
	}
	for _, p := range []string{"...", "..a", "a..", ".a", "a.", "-", "_", "--", ".-.", "a/...", ".../a", "a/..a/b", "a/.b", "a./b", "A_9/-x", part20} {
		valid(t, p, true)
	}
	for _, p := range []string{"", "/", "//", ".", "..", "/a", "a/", "//a", "a//", "a//b", "./a", "../a", "a/.", "a/..", "a/./b", "a/../b", "a/b/..", "/.", "./", "../", "..//a"} {
		valid(t, p, false)
	}
}

func TestValidLength(t *testing.T) {
	for n := 1; n <= 130; n++ {
		valid(t, ofLength(n), n <= 80)
		if n%2 == 1 {
			valid(t, strings.Repeat("a/", n/2)+"a", n <= 80)
		}
	}
	valid(t, strings.Repeat("a/", 39)+"aa", true)   // 80
	valid(t, strings.Repeat("a/", 39)+"aaa", false) // 81
	valid(t, strings.Repeat("a/", 1<<20)+"a", false)
	valid(t, strings.Repeat("a", 1<<20), false)
}

func TestValidOfAnyText(t *testing.T) {
	for _, bytes := range []string{"a./", "Z_/ ", ".-/\n\x00"} {
		anyOf(bytes, 7, func(p string) { valid(t, p, wantValid(p)) })
	}
}

func TestClean(t *testing.T) {
	for _, c := range []struct{ p, want string }{
		{"a/./b/../c.h", "a/c.h"},
		{"a", "a"}, {"/a", "a"}, {"a/", "a"}, {"///a///b///", "a/b"}, {"./a/.", "a"}, {"././a/./././b", "a/b"},
		{"a/../b", "b"}, {"a/b/../../c", "c"}, {"a/b/../c/../d", "a/d"}, {"a/b/..", "a"}, {"/a/../b", "b"}, {"a//../b", "b"}, {"a/./../b", "b"},
		{".../a", ".../a"}, {"..a/a..", "..a/a.."}, {".../../a", "a"}, {"-/_", "-/_"},
	} {
		clean(t, c.p, c.want, api.OK)
	}
	for _, p := range []string{
		"", "/", "//", ".", "./", "/.", "./.", "a/..", "/a/../", "a/b/../..", "./a/..", // nothing is left
		"..", "/..", "../a", "./..", "/../a", "a/../..", "a/../../b", "a/../../b/c", "a/b/../../../c", "../..", ".././a", "a/..//../b", // none ahead
		"a b", "a/b c/d", "é", "a\x00", "a/\xff", "a\\..\\b", "a/.. /b", "a/ /b", "a\n",
	} {
		clean(t, p, "", api.ErrArg)
	}
}

// TestCleanTakenAway: what is not left may be anything.
func TestCleanTakenAway(t *testing.T) {
	long := strings.Repeat("x", 1000)
	for _, gone := range []string{"x", part20 + "1", long, " ", "\x00", "é", "\xff\xfe", "...", "a\\b", "\n"} {
		clean(t, gone+"/../b", "b", api.OK)
		clean(t, "a/"+gone+"/../b", "a/b", api.OK)
		clean(t, "a/"+gone+"/"+gone+"/../../b", "a/b", api.OK)
		clean(t, "a/"+gone+"/..", "a", api.OK)
		clean(t, gone+"/..", "", api.ErrArg)
		clean(t, gone+"/../../b", "", api.ErrArg)
	}
	many := 100000
	clean(t, strings.Repeat("a/", many)+strings.Repeat("../", many-1), "a", api.OK)
	clean(t, strings.Repeat("a/", many)+strings.Repeat("../", many)+"b", "b", api.OK)
	clean(t, strings.Repeat("a/", many)+strings.Repeat("../", many+1)+"b", "", api.ErrArg)
	clean(t, strings.Repeat("/.", many)+"/b"+strings.Repeat("/", many), "b", api.OK)
	clean(t, strings.Repeat("a/", many), "", api.ErrArg)
}

// TestCleanLengths: the limits are those of what is left.
func TestCleanLengths(t *testing.T) {
	clean(t, "./"+part20, part20, api.OK)
	clean(t, part20+"1", "", api.ErrArg)
	clean(t, "a/"+part20+"1/b", "", api.ErrArg)
	for n := 70; n <= 90; n++ {
		p := ofLength(n)
		want, e := p, api.OK
		if n > 80 {
			want, e = "", api.ErrArg
		}
		for _, around := range []string{p, "/" + p, p + "/", "./" + p + "/.", "//" + p, "x/../" + p, p + "/" + part20 + "/..", strings.ReplaceAll(p, "/", "/./")} {
			clean(t, around, want, e)
		}
	}
}

func TestCleanOfAnyText(t *testing.T) {
	for _, bytes := range []string{"a./", "B./ "} {
		anyOf(bytes, 9-len(bytes)/4, func(p string) {
			want, e := wantClean(p)
			clean(t, p, want, e)
		})
	}
	seed := uint64(2)
	below := func(n int) int {
		seed = seed*6364136223846793005 + 1442695040888963407
		return int(seed >> 33 % uint64(n))
	}
	words := []string{"a", "b.c", part20, part20 + "z", ".", "..", "..", "", "...", "x y", "-_", "dir", "longer.name"}
	for range 20000 {
		var list []string
		for range below(14) {
			list = append(list, words[below(len(words))])
		}
		p := strings.Join(list, "/")
		want, e := wantClean(p)
		clean(t, p, want, e)
	}
}

func TestJoin(t *testing.T) {
	for _, c := range []struct{ dir, p, want string }{
		{"a", "b", "a/b"}, {"", "b", "b"}, {"a/b", "../c", "a/c"}, {"a/b", "./c/d.h", "a/b/c/d.h"}, {"a/b", "../../c", "c"}, {"", "a/../b", "b"},
		{"a", "", "a"}, {"a", ".", "a"}, {"a/b", "..", "a"}, {"a/", "b", "a/b"}, {"./a//", ".//b", "a/b"}, {"/a", "b", "a/b"}, {"a/..", "b", "b"}, {".", "b", "b"},
		{"a b/..", "c", "c"}, {"a b", "../c", "c"}, {part20 + "1", "../c", "c"},
		{"a", "/b", "b"}, {"a", "//b", "b"}, {"a", "/b/../c", "c"}, {"a b", "/c", "c"}, {"..", "/c", "c"}, {"", "/c", "c"}, {ofLength(80), "/c", "c"},
	} {
		join(t, c.dir, c.p, c.want, api.OK)
	}
	for _, c := range []struct{ dir, p string }{
		{"", ""}, {"", "."}, {"a", ".."}, {"/", ""}, {"a/..", ""}, // nothing is left
		{"", ".."}, {"", "../a"}, {"a", "../../c"}, {"..", "a"}, {"../a", "b"}, {"a/../..", "b"}, {"..", "../a"},
		{"a", "/.."}, {"a", "/../b"}, {"a/b", "/"}, {"a", "//"}, {"a", "/."}, {"a", "/b/.."}, // dir does not help
		{"a b", "c"}, {"a", "b c"}, {"a", "/b c"}, {"\x00", "c"}, {part20 + "1", "c"}, {"c", part20 + "1"},
	} {
		join(t, c.dir, c.p, "", api.ErrArg)
	}
}

func TestJoinLengths(t *testing.T) {
	for n := 1; n < 80; n++ {
		dir, fits, more := ofLength(n), ofLength(79-n), ofLength(80-n)
		if fits == "" { // dir and / of 80 bytes, and one letter more
			join(t, dir, "a", "", api.ErrArg)
			continue
		}
		join(t, dir, fits, dir+"/"+fits, api.OK)
		join(t, dir, more, "", api.ErrArg)
		join(t, dir, "/"+more, more, api.OK)
	}
	join(t, ofLength(80), "a", "", api.ErrArg)
	join(t, ofLength(80), "", ofLength(80), api.OK)
	join(t, "", ofLength(80), ofLength(80), api.OK)
	join(t, "", ofLength(81), "", api.ErrArg)
}

func TestJoinOfAnyTexts(t *testing.T) {
	anyOf("a./", 4, func(dir string) {
		anyOf("b./", 4, func(p string) {
			whole := dir + "/" + p
			if p != "" && p[0] == '/' {
				whole = p
			}
			want, e := wantClean(whole)
			join(t, dir, p, want, e)
		})
	})
}

func TestDir(t *testing.T) {
	long := strings.Repeat("a b/", 1<<16)
	for _, c := range []struct{ p, want string }{
		{"a/b/c", "a/b"}, {"a/c.h", "a"}, {"c.h", ""}, {"", ""}, {"/", ""}, {"/c", ""}, {"a/", "a"}, {"a//b", "a/"}, {"//", "/"}, {"///", "//"}, {"//a", "/"},
		{"a/../b", "a/.."}, {"..", ""}, {"./c", "."}, {"a b/\x00", "a b"}, {"\xff/é/x", "\xff/é"}, {"a\\b", ""}, {long, long[:len(long)-1]}, {long + "c", long[:len(long)-1]},
	} {
		if got := paths.Dir(c.p); got != c.want {
			t.Errorf("P2.1: Dir(%q): got %q, want %q", c.p, got, c.want)
		}
	}
}

// TestDirIsADirectory: of a path; and with what stands behind it, it is that path again.
func TestDirIsADirectory(t *testing.T) {
	anyOf("a./", 7, func(p string) {
		if !wantValid(p) {
			return
		}
		dir := paths.Dir(p)
		if dir != "" && !paths.Valid(dir) {
			t.Errorf("P2.1: Dir(%q): got %q, want a directory", p, dir)
		}
		join(t, dir, p[strings.LastIndexByte(p, '/')+1:], p, api.OK)
	})
}

func TestCleanOfAPath(t *testing.T) {
	for n := 1; n <= 80; n++ {
		same(t, ofLength(n))
	}
	for _, p := range []string{"a", "c.h", "a/c.h", "A_9/-x", "...", "..a/a..", ".a/a.", part20, part20 + "/" + part20, strings.Repeat("a/", 39) + "aa"} {
		same(t, p)
	}
	for _, bytes := range []string{"a./", "-/."} {
		anyOf(bytes, 8, func(p string) {
			if paths.Valid(p) {
				same(t, p)
			}
		})
	}
}

// TestCleanTwice: what Clean answers is a path, and so itself.
func TestCleanTwice(t *testing.T) {
	anyOf("a./", 8, func(p string) {
		if got, e := paths.Clean(p); e == api.OK {
			valid(t, got, true)
			same(t, got)
		}
	})
}
