package phase_test

import (
	"math"
	"math/rand"
	"regexp"
	"slices"
	"strconv"
	"strings"
	"testing"
	"unsafe"

	"oxbow/api"
	"oxbow/phase"
)

const (
	signs    = `=/'()!<>-`
	standFor = `#\^[]|{}~`
)

// The oracle: first all trigraphs, by an expression, then all splices, by another one over what those left.
var (
	trigraph = regexp.MustCompile(`\?\?[=/'()!<>-]`)
	splice   = regexp.MustCompile(`\\\n`)
)

// wantBytes is a text's characters, without the byte 10 that may be put behind.
func wantBytes(text string) []phase.Rune {
	var all []phase.Rune
	plain := func(from, to int) {
		for at := from; at < to; at++ {
			all = append(all, phase.Rune{C: text[at], From: at, To: at + 1})
		}
	}
	done := 0
	for _, m := range trigraph.FindAllStringIndex(text, -1) {
		plain(done, m[0])
		c := standFor[strings.IndexByte(signs, text[m[0]+2])]
		all = append(all, phase.Rune{C: c, From: m[0], To: m[1]})
		done = m[1]
	}
	plain(done, len(text))

	var stand []phase.Rune
	done = 0
	for _, m := range splice.FindAllStringIndex(spelled(all), -1) {
		stand = append(stand, all[done:m[0]]...)
		done = m[1]
	}
	return append(stand, all[done:]...)
}

func wantChars(text string) []phase.Rune {
	want := wantBytes(text)
	if text != "" && !strings.HasSuffix(spelled(want), "\n") {
		want = append(want, phase.Rune{C: 10, From: len(text), To: len(text)})
	}
	return want
}

func wantBack(text string, from, to int) string {
	var in []phase.Rune
	for _, r := range wantBytes(text) {
		if r.From >= from && r.To <= to {
			in = append(in, r)
		}
	}
	return spelled(in)
}

func spelled(l []phase.Rune) string {
	text := make([]byte, len(l))
	for i, r := range l {
		text[i] = r.C
	}
	return string(text)
}

// told is characters as a test writes them: each byte, quoted if it is not to be seen, with its From and To.
func told(l []phase.Rune) string {
	var text []string
	for _, r := range l {
		c := string([]byte{r.C})
		if r.C < ' ' || r.C >= 127 {
			c = strings.Trim(strconv.Quote(c), `"`)
		}
		text = append(text, c+strconv.Itoa(r.From)+"-"+strconv.Itoa(r.To))
	}
	return strings.Join(text, " ")
}

func chars(t *testing.T, text, want string) {
	t.Helper()
	if got := told(phase.Chars(text)); got != want {
		t.Errorf("P4.1: Chars(%q):\n got %s\nwant %s", text, got, want)
	}
}

func charsAsOracle(t *testing.T, text string) {
	t.Helper()
	if got, want := phase.Chars(text), wantChars(text); !slices.Equal(got, want) {
		t.Errorf("P4.1: Chars(%.80q):\n got %.400s\nwant %.400s", text, told(got), told(want))
	}
}

func back(t *testing.T, text string, from, to int, want string) {
	t.Helper()
	if got := phase.Back(text, from, to); got != want {
		t.Errorf("P4.2: Back(%.80q, %d, %d): got %.80q, want %.80q", text, from, to, got, want)
	}
}

// anyOf is each text of at most n of these bytes.
func anyOf(bytes string, n int, see func(text string)) {
	var put func(text string)
	put = func(text string) {
		see(text)
		if len(text) == n {
			return
		}
		for i := range len(bytes) {
			put(text + bytes[i:i+1])
		}
	}
	put("")
}

// someTexts is texts of n bytes, the same ones in each run, most of their bytes from those of which trigraphs and splices are made.
func someTexts(count, n int, see func(text string)) {
	random := rand.New(rand.NewSource(4))
	pieces := []string{"?", "?", "??", "??", "\\", "\\", "\n", "\n", "\\\n", "??/", "??/\n"}
	for range count {
		var text strings.Builder
		for text.Len() < n {
			switch random.Intn(4) {
			case 0:
				text.WriteByte(byte(random.Intn(256)))
			case 1:
				text.WriteByte(signs[random.Intn(len(signs))])
			default:
				text.WriteString(pieces[random.Intn(len(pieces))])
			}
		}
		see(text.String()[:n])
	}
}

func TestTrigraph(t *testing.T) {
	for c := range 256 {
		want, is := byte(0), false
		if at := strings.IndexByte(signs, byte(c)); at >= 0 {
			want, is = standFor[at], true
		}
		if got, ok := phase.Trigraph(byte(c)); got != want || ok != is {
			t.Errorf("P4.1: Trigraph(%q): got %q, %v, want %q, %v", byte(c), got, ok, want, is)
		}
	}
}

func TestCharsOfEachByte(t *testing.T) {
	for c := range 256 {
		one := string([]byte{byte(c)})
		for _, text := range []string{one, one + "x", "x" + one, one + one, one + "\n", "\n" + one, "?" + one, "??" + one, "??" + one + "\n", "???" + one + "x", "\\" + one, "\\" + one + "\n", "??/" + one, "x??" + one + "x"} {
			charsAsOracle(t, text)
		}
		if c == '\n' || c == '?' || c == '\\' || strings.IndexByte(signs, byte(c)) >= 0 {
			continue
		}
		got := phase.Chars("??" + one + "\n")
		want := []phase.Rune{{C: '?', From: 0, To: 1}, {C: '?', From: 1, To: 2}, {C: byte(c), From: 2, To: 3}, {C: '\n', From: 3, To: 4}}
		if !slices.Equal(got, want) {
			t.Errorf("P4.1: Chars of two questions and %q: got %s", one, told(got))
		}
	}
}

func TestCharsOfPlainTexts(t *testing.T) {
	chars(t, "", "")
	chars(t, "\n", `\n0-1`)
	chars(t, "a", `a0-1 \n1-1`)
	chars(t, "a\n", `a0-1 \n1-2`)
	chars(t, "a\n\n", `a0-1 \n1-2 \n2-3`)
	chars(t, "\na", `\n0-1 a1-2 \n2-2`)
	chars(t, "int", `i0-1 n1-2 t2-3 \n3-3`)
	chars(t, "a\r\n", `a0-1 \r1-2 \n2-3`) // a byte 13 is a byte as any other
	chars(t, "\r", `\r0-1 \n1-1`)
	chars(t, "\x00\xff", `\x000-1 \xff1-2 \n2-2`)
	chars(t, "é", `\xc30-1 \xa91-2 \n2-2`) // by bytes
}

func TestCharsOfTrigraphs(t *testing.T) {
	for i := range len(signs) {
		sign, c := signs[i:i+1], standFor[i:i+1]
		chars(t, "??"+sign, c+`0-3 \n3-3`)
		chars(t, "a??"+sign+"b", `a0-1 `+c+`1-4 b4-5 \n5-5`)
		chars(t, "???"+sign, `?0-1 `+c+`1-4 \n4-4`)
		chars(t, "????"+sign, `?0-1 ?1-2 `+c+`2-5 \n5-5`)
		chars(t, "?????"+sign, `?0-1 ?1-2 ?2-3 `+c+`3-6 \n6-6`)
		chars(t, "??"+sign+"??"+sign, c+`0-3 `+c+`3-6 \n6-6`)
		chars(t, "??"+sign+sign, c+`0-3 `+sign+`3-4 \n4-4`)
		chars(t, "?"+sign, `?0-1 `+sign+`1-2 \n2-2`)
		chars(t, "? ?"+sign, `?0-1  1-2 ?2-3 `+sign+`3-4 \n4-4`)
		chars(t, "?\n?"+sign, `?0-1 \n1-2 ?2-3 `+sign+`3-4 \n4-4`)
	}
	chars(t, "?", `?0-1 \n1-1`)
	chars(t, "??", `?0-1 ?1-2 \n2-2`)
	chars(t, "a??", `a0-1 ?1-2 ?2-3 \n3-3`)
	chars(t, "???", `?0-1 ?1-2 ?2-3 \n3-3`)
	chars(t, "??=?", `#0-3 ?3-4 \n4-4`)
	chars(t, "??=??", `#0-3 ?3-4 ?4-5 \n5-5`)
	chars(t, "??\n", `?0-1 ?1-2 \n2-3`)
	chars(t, "??x", `?0-1 ?1-2 x2-3 \n3-3`)
	chars(t, "??#", `?0-1 ?1-2 #2-3 \n3-3`) // what one stands for is no sign
	chars(t, "??=define", `#0-3 d3-4 e4-5 f5-6 i6-7 n7-8 e8-9 \n9-9`)
}

func TestCharsOfSplices(t *testing.T) {
	chars(t, "a\\\nb", `a0-1 b3-4 \n4-4`)
	chars(t, "a\\\nb\n", `a0-1 b3-4 \n4-5`)
	chars(t, "a??/\nb", `a0-1 b5-6 \n6-6`)
	chars(t, "\\x", `\0-1 x1-2 \n2-2`)
	chars(t, "??/x", `\0-3 x3-4 \n4-4`)
	chars(t, "\\ \n", `\0-1  1-2 \n2-3`)
	chars(t, "\\\r\n", `\0-1 \r1-2 \n2-3`)
	chars(t, "??/ \n", `\0-3  3-4 \n4-5`)
	chars(t, "\\", `\0-1 \n1-1`) // the byte 10 that is put behind is none that a splice has
	chars(t, "a\\", `a0-1 \1-2 \n2-2`)
	chars(t, "??/", `\0-3 \n3-3`)
	chars(t, "a??/", `a0-1 \1-4 \n4-4`)
	chars(t, "a\\\n\\\nb", `a0-1 b5-6 \n6-6`)
	chars(t, "a??/\n\\\nb", `a0-1 b7-8 \n8-8`)
	chars(t, "a\\\n??/\nb", `a0-1 b7-8 \n8-8`)
	chars(t, "a??/\n??/\nb", `a0-1 b9-10 \n10-10`)
	chars(t, "a\\\nb\\\nc", `a0-1 b3-4 c6-7 \n7-7`)
	chars(t, "/\\\n/", `/0-1 /3-4 \n4-4`)
	chars(t, "\\??/\n", `\0-1 \n5-5`)
	chars(t, "??/\\\n", `\0-3 \n5-5`)
}

func TestCharsAreNotLookedAtAgain(t *testing.T) {
	chars(t, "\\\\\n\n", `\0-1 \n3-4`)
	chars(t, "\\\\\n\nb", `\0-1 \n3-4 b4-5 \n5-5`)
	chars(t, "??/\\\n\n", `\0-3 \n5-6`)
	chars(t, "\\??/\n\n", `\0-1 \n5-6`)
	chars(t, "??/??/\n\n", `\0-3 \n7-8`)
	chars(t, "\\\\\n\\\n\nb", `\0-1 \n5-6 b6-7 \n7-7`) // two splices between
	chars(t, "\\\\\\\n\n\n", `\0-1 \1-2 \n4-5 \n5-6`)
	chars(t, "?\\\n?=", `?0-1 ?3-4 =4-5 \n5-5`)
	chars(t, "??\\\n=", `?0-1 ?1-2 =4-5 \n5-5`)
	chars(t, "?\\\n?\\\n=", `?0-1 ?3-4 =6-7 \n7-7`)
	chars(t, "??\\\n\\\n=", `?0-1 ?1-2 =6-7 \n7-7`)
	chars(t, "???/\n?=", `?0-1 ?5-6 =6-7 \n7-7`)
	chars(t, "????/\n=", `?0-1 ?1-2 =6-7 \n7-7`)
	chars(t, "??\\\n/\n", `?0-1 ?1-2 /4-5 \n5-6`)
	chars(t, "?\\\n?/\n", `?0-1 ?3-4 /4-5 \n5-6`)
	chars(t, "??/??=", `\0-3 #3-6 \n6-6`)
	chars(t, "\\n", `\0-1 n1-2 \n2-2`)
}

func TestCharsAtTheEnd(t *testing.T) {
	chars(t, "\\\n", `\n2-2`)
	chars(t, "??/\n", `\n4-4`)
	chars(t, "\\\n\\\n", `\n4-4`)
	chars(t, "??/\n\\\n??/\n", `\n10-10`)
	chars(t, "a\\\n", `a0-1 \n3-3`)
	chars(t, "a??/\n", `a0-1 \n5-5`)
	chars(t, "a\n\\\n", `a0-1 \n1-2`) // the last one that stands is a byte 10, though the text goes on
	chars(t, "a\n??/\n\\\n", `a0-1 \n1-2`)
	chars(t, "\n\\\n", `\n0-1`)
	chars(t, "a\\\n\n", `a0-1 \n3-4`)
	chars(t, "a\n\\", `a0-1 \n1-2 \2-3 \n3-3`)
}

func TestCharsOfAllShortTexts(t *testing.T) {
	anyOf("?/=\\\na", 7, func(text string) { charsAsOracle(t, text) })
}

func TestCharsOfSomeTexts(t *testing.T) {
	someTexts(3000, 60, func(text string) { charsAsOracle(t, text) })
	someTexts(3, api.MaxFile, func(text string) { charsAsOracle(t, text) })
	for _, piece := range []string{"x", "?", "\\", "\n", "\\\n", "??/\n", "??=", "??/", "?\\\n"} {
		charsAsOracle(t, strings.Repeat(piece, api.MaxFile/len(piece)))
	}
}

func TestBackOfExamples(t *testing.T) {
	const text = "a??=\\\nb\n" // a at 0, # at 1 to 4, the splice to 6, b to 7, byte 10 to 8
	for _, x := range []struct {
		from, to int
		want     string
	}{
		{0, 8, "a#b\n"}, {0, 7, "a#b"}, {0, 6, "a#"}, {0, 5, "a#"}, {0, 4, "a#"}, {0, 1, "a"}, {0, 0, ""},
		{0, 2, "a"}, {0, 3, "a"}, {1, 2, ""}, {1, 3, ""}, {1, 4, "#"}, // to within the trigraph
		{2, 4, ""}, {3, 4, ""}, {2, 8, "b\n"}, {3, 7, "b"}, {2, 3, ""}, // from within it
		{1, 5, "#"}, {4, 5, ""}, {5, 6, ""}, {5, 8, "b\n"}, {4, 7, "b"}, {5, 7, "b"}, // in the splice
		{6, 8, "b\n"}, {7, 8, "\n"}, {8, 8, ""}, {7, 7, ""}, {4, 4, ""},
		{0, 9, "a#b\n"}, {0, 1000, "a#b\n"}, {0, math.MaxInt, "a#b\n"}, {7, 9, "\n"}, // to behind the text
		{9, 9, ""}, {8, 100, ""}, {9, 100, ""}, {math.MaxInt, math.MaxInt, ""}, {math.MaxInt - 1, math.MaxInt, ""},
		{5, 2, ""}, {8, 0, ""}, {1, 0, ""}, {7, 6, ""}, {math.MaxInt, math.MinInt, ""}, {100, 8, ""},
		{-1, 8, "a#b\n"}, {-5, 4, "a#"}, {math.MinInt, math.MaxInt, "a#b\n"}, {math.MinInt + 1, 8, "a#b\n"},
		{0, -1, ""}, {-5, -1, ""}, {-1, 0, ""}, {-1, -5, ""}, {math.MinInt, -1, ""}, {math.MinInt, math.MinInt, ""},
	} {
		back(t, text, x.from, x.to, x.want)
	}
}

func TestBackHasNoByteThatWasPutBehind(t *testing.T) {
	for _, text := range []string{"", "a", "\\", "\\\n", "a\\\n", "??/", "??", "??/\n", "a\n\\\n", "a\nb"} {
		want := spelled(wantBytes(text))
		back(t, text, 0, len(text), want)
		back(t, text, -1, len(text)+1, want)
		back(t, text, len(text), len(text), "")
		back(t, text, len(text), len(text)+1, "")
		back(t, text, len(text), math.MaxInt, "")
		back(t, text, len(text)+1, math.MaxInt, "")
	}
	back(t, "x", 0, 1, "x")
	back(t, "\n", 0, 1, "\n")
}

func TestBackAboutASplice(t *testing.T) {
	const text = "ab??/\ncd" // the splice from 2 to 6
	for from := range 9 {
		for to := range 9 {
			back(t, text, from, to, wantBack(text, from, to))
		}
	}
	for from, want := range []string{"abcd", "bcd", "cd", "cd", "cd", "cd", "cd", "d", ""} {
		back(t, text, from, 8, want)
	}
	for to, want := range []string{"", "a", "ab", "ab", "ab", "ab", "ab", "abc", "abcd"} {
		back(t, text, 0, to, want)
	}
}

func TestBackOfAllShortTexts(t *testing.T) {
	everywhere := func(text string) {
		for from := -1; from <= len(text)+1; from++ {
			for to := -1; to <= len(text)+1; to++ {
				back(t, text, from, to, wantBack(text, from, to))
			}
		}
	}
	anyOf("?/=\\\n", 5, everywhere)
	someTexts(100, 20, everywhere)
	for c := range 256 {
		one := string([]byte{byte(c)})
		everywhere("??" + one + "\n" + one)
		everywhere("?" + "??" + one + "\\" + one)
	}
}

func TestBackOfLongTexts(t *testing.T) {
	random := rand.New(rand.NewSource(42))
	someTexts(3, api.MaxFile, func(text string) {
		want := wantBytes(text)
		back(t, text, 0, len(text), spelled(want))
		for range 500 { // each one, and the next ones, by their own From and To
			at := random.Intn(len(want) - 10)
			for n := range 10 {
				back(t, text, want[at].From, want[at+n].To, spelled(want[at:at+n+1]))
			}
		}
	})
}

func TestCharsKeepTheirOrder(t *testing.T) {
	ordered := func(text string) {
		end := 0
		for i, r := range phase.Chars(text) {
			n := r.To - r.From
			if r.From < end || r.To > len(text) || n != 1 && n != 3 && r.From != len(text) {
				t.Fatalf("P4.3: Chars(%.80q): got %s at %d, behind one that ends at %d", text, told([]phase.Rune{r}), i, end)
			}
			if n == 1 && r.C != text[r.From] {
				t.Fatalf("P4.3: Chars(%.80q): got %s at %d, where another byte is", text, told([]phase.Rune{r}), i)
			}
			end = r.To
		}
	}
	anyOf("?/\\\na", 6, ordered)
	someTexts(500, 100, ordered)
}

func TestCharsAreNewMemory(t *testing.T) {
	const text = "a??=\\\nb"
	first := phase.Chars(text)
	kept := slices.Clone(first)
	second := phase.Chars(text)
	for i := range first {
		first[i] = phase.Rune{C: 'X', From: -1, To: -1}
	}
	first = append(first[:0], phase.Rune{C: 'Y'})
	if !slices.Equal(second, kept) {
		t.Errorf("P4.3: Chars: a second answer became %s, want %s", told(second), told(kept))
	}
	if third := phase.Chars(text); !slices.Equal(third, kept) {
		t.Errorf("P4.3: Chars: got %s behind a change of what was answered, want %s", told(third), told(kept))
	}
}

// TestBackIsNewMemory: what is answered keeps no text alive that it is a piece of.
func TestBackIsNewMemory(t *testing.T) {
	text := strings.Repeat("plain text", 10)
	start := uintptr(unsafe.Pointer(unsafe.StringData(text)))
	for from := range len(text) {
		for _, to := range []int{from + 1, from + 7, len(text)} {
			got := phase.Back(text, from, to)
			at := uintptr(unsafe.Pointer(unsafe.StringData(got)))
			if got != "" && at >= start && at < start+uintptr(len(text)) {
				t.Fatalf("P4.3: Back(.., %d, %d): got a piece of what was handed in", from, to)
			}
		}
	}
}

// TestCallsHangOnNothingElse: what was asked ahead of a call changes nothing.
func TestCallsHangOnNothingElse(t *testing.T) {
	const text = "??=x\\\n\\"
	want := told(phase.Chars(text))
	for range 3 {
		phase.Chars("other\\\n")
		phase.Back("other", 1, 3)
		chars(t, text, want)
		back(t, text, 0, 7, "#x\\")
	}
}
