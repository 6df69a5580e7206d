package direct_test

import (
	"math"
	"reflect"
	"strings"
	"testing"

	"oxbow/api"
	"oxbow/direct"
	"oxbow/lex"
)

// wordOf is the twelve words, as the document has them.
var wordOf = map[int]string{
	direct.If: "if", direct.Ifdef: "ifdef", direct.Ifndef: "ifndef", direct.Elif: "elif", direct.Else: "else", direct.Endif: "endif",
	direct.Include: "include", direct.Define: "define", direct.Undef: "undef", direct.LineNo: "line", direct.Error: "error", direct.Pragma: "pragma",
}

// line is the tokens of a text of one line.
func line(t *testing.T, text string) []api.Token {
	t.Helper()
	l, _ := lex.Lines("f.c", text)
	if len(l) != 1 {
		t.Fatalf("%q has %d lines", text, len(l))
	}
	return l[0].Toks
}

// holds holds what is told of a text of one line against what is wanted; rest is lex.Text of Rest.
func holds(t *testing.T, text string, kind int, rest string) {
	t.Helper()
	l := line(t, text)
	if got := direct.Kind(l); got != kind {
		t.Errorf("P7.1: Kind of %q: got %d, want %d", text, got, kind)
	}
	if got := lex.Text(direct.Rest(l)); got != rest {
		t.Errorf("P7.1: Rest of %q: got %q, want %q", text, got, rest)
	}
}

func TestNumbersOfKinds(t *testing.T) {
	got := []int{direct.Text, direct.Null, direct.If, direct.Ifdef, direct.Ifndef, direct.Elif, direct.Else, direct.Endif, direct.Include, direct.Define, direct.Undef, direct.LineNo, direct.Error, direct.Pragma, direct.Unknown}
	for want, kind := range got {
		if kind != want {
			t.Errorf("P7.1: got kind %d, want %d", kind, want)
		}
	}
}

func TestWords(t *testing.T) {
	if len(wordOf) != 12 {
		t.Fatalf("%d words", len(wordOf))
	}
	for kind := -300; kind <= 300; kind++ {
		if got := direct.Word(kind); got != wordOf[kind] {
			t.Errorf("P7.1: Word(%d): got %q, want %q", kind, got, wordOf[kind])
		}
	}
	for _, kind := range []int{direct.Text, direct.Null, direct.Unknown, -1, direct.Unknown + 1, math.MinInt, math.MaxInt, math.MaxInt32 + 3, math.MinInt32, 1<<32 + 2, 1<<8 + 2} {
		if got := direct.Word(kind); got != "" {
			t.Errorf("P7.1: Word(%d): got %q, want none", kind, got)
		}
	}
}

func TestDirectives(t *testing.T) {
	for kind, word := range wordOf {
		for _, hash := range []string{"#", "%:", " # ", "\t%: ", "/**/#/**/", "??=", "??= ", "\\\n#\\\n", "%\\\n:", "%??/\n:", "/*\n*/#", "/* */??=/*\n\n*/"} {
			holds(t, hash+word, kind, "")
			holds(t, hash+word+"\n", kind, "")
			holds(t, hash+word+" // 1", kind, "")
			holds(t, hash+word[:1]+"\\\n"+word[1:], kind, "")
			holds(t, hash+word[:1]+"??/\n"+word[1:]+"\\\n(A)", kind, "(A)")
			holds(t, hash+word+" A", kind, "A")
			holds(t, hash+word+"+A b  c", kind, "+A b c")
			holds(t, hash+word+"#"+word, kind, "#"+word)
			holds(t, hash+word+"\"a\"'b' 1 @ ??=", kind, "\"a\"'b' 1 @ #")
			holds(t, hash+word+strings.Repeat(" x", 1000), kind, strings.Repeat(" x", 1000)[1:])
		}
	}
	holds(t, "# define A", direct.Define, "A")
	holds(t, "#define f(x) #x", direct.Define, "f(x) #x")
	holds(t, "#include <a/b.h>", direct.Include, "<a/b.h>")
	holds(t, "#if/**/1", direct.If, "1")
	holds(t, "#if.5", direct.If, ".5")
	holds(t, "#if-1", direct.If, "-1")
	holds(t, "#if'a", direct.If, "'a") // a quote that does not end
	holds(t, "#else /* 1", direct.Else, "")
}

func TestText(t *testing.T) {
	for _, text := range []string{
		"\n", " ", "// #if", "/* #if */", "/*#if", "\\\n",
		"x", "x # y", "if 1", "define A", "x\\\n#if", "/* */x #if 1", "; #else", "1 #", "\"#\" if", "'#' if", "@ #if", "\\ #if", "' #if", "(#if)",
		"##", "##if", "## if", "%:%:", "%:%:if", "%:%: if", "###if", "%:%:%:if", "%", ": if", "% :if", "??", "?" + "?\\\n=if", "<: if", "=#if",
	} {
		holds(t, text, direct.Text, "")
	}
	for word := range wordOf {
		holds(t, wordOf[word]+" #"+wordOf[word]+" 1", direct.Text, "")
	}
}

func TestNull(t *testing.T) {
	for _, hash := range []string{"#", "%:", "??="} {
		for _, text := range []string{hash, hash + "\n", " " + hash + " ", hash + "//if", hash + "/* if */", "/**/" + hash + "/*", hash + "\\\n", "\\\n" + hash} {
			holds(t, text, direct.Null, "")
		}
	}
}

func TestUnknown(t *testing.T) {
	for _, hash := range []string{"#", "%: "} {
		for kind, word := range wordOf {
			for _, other := range []string{word + "x", word + "_", word + "1", "_" + word, word[:1], word[1:], word[:len(word)-1], strings.ToUpper(word), strings.ToUpper(word[:1]) + word[1:], word + word, word + wordOf[direct.If+(kind-1)%12]} {
				if other != "if" { // an ifdef's beginning is one
					holds(t, hash+other, direct.Unknown, "")
					holds(t, hash+other+" "+word+" 1", direct.Unknown, word+" 1")
				}
			}
			for _, other := range []string{"\"" + word + "\"", "'" + word + "'", "L\"" + word + "\"", "1" + word, ".5" + word} {
				holds(t, hash+other, direct.Unknown, "")
				holds(t, hash+other+" 1", direct.Unknown, "1")
			}
			for _, other := range []string{"#", "%:", "##", "(", "\"", "'", "@", "$", "\\", "*", "1.+"} {
				behind := other + word
				holds(t, hash+" "+behind+" 1", direct.Unknown, lex.Text(line(t, behind+" 1")[1:]))
			}
		}
		for _, other := range []string{"1", "1 \"f.c\"", "# 2", "x", "_", "__if__", "ifeq", "warning", "elifdef", "import", "ident", "assert", "lineno", "null", "text", "unknown", "d\u0435fine", "\u00e9", "\x00", "\x00if"} {
			holds(t, hash+" "+other, direct.Unknown, lex.Text(line(t, other)[1:]))
		}
	}
}

// model is Kind of at most two tokens, in the document's words.
func model(l []api.Token) int {
	if len(l) == 0 {
		return direct.Text
	}
	if l[0].Kind != api.Punct || l[0].Text != "#" && l[0].Text != "%:" {
		return direct.Text
	}
	if len(l) == 1 {
		return direct.Null
	}
	for kind, word := range wordOf {
		if l[1].Kind == api.Ident && l[1].Text == word {
			return kind
		}
	}
	return direct.Unknown
}

// anyTokens is tokens of each kind, also of none, and of many texts, also such as no lexer makes.
func anyTokens() []api.Token {
	texts := []string{"", "#", "%:", "##", "%:%:", " #", "# ", "#\n", "#if", "if ", " if", "if\x00", "IF", "i", "f", "x", "1", "??=", "\"if\"", "'if'", "#\x00", "\xff", strings.Repeat("if", 1000)}
	for kind := range wordOf {
		texts = append(texts, wordOf[kind])
	}
	var all []api.Token
	for _, kind := range []int{math.MinInt, -1, 0, api.Ident, api.Number, api.Char, api.String, api.Punct, api.Other, api.Pragma, 8, 1<<32 + api.Ident, 1<<32 + api.Punct, math.MaxInt} {
		for _, text := range texts {
			all = append(all, api.Token{Kind: kind, Text: text})
		}
	}
	return all
}

func TestAnyTokens(t *testing.T) {
	check := func(l []api.Token) {
		if got, want := direct.Kind(l), model(l); got != want {
			t.Fatalf("P7.1: Kind of %+v: got %d, want %d", l, got, want)
		}
		if got := direct.Rest(l); len(got) != 0 {
			t.Fatalf("P7.1: Rest of %+v: got %+v", l, got)
		}
	}
	check(nil)
	check([]api.Token{})
	all := anyTokens()
	for _, one := range all {
		check([]api.Token{one})
		for _, two := range all {
			check([]api.Token{one, two})
		}
	}
}

// What a token is beside its Kind and Text turns nothing.
func TestOtherFields(t *testing.T) {
	hash := api.Token{Kind: api.Punct, Text: "#", Space: true, Made: true, Span: api.Span{File: "g", From: -1, To: -5}, Sites: []api.Site{{Macro: "#"}}}
	word := api.Token{Kind: api.Ident, Text: "undef", Space: true, Made: true, Span: api.Span{From: 7}, Sites: []api.Site{{Made: true}, {}}}
	if got := direct.Kind([]api.Token{hash, word, hash}); got != direct.Undef {
		t.Errorf("P7.1: got %d, want %d", got, direct.Undef)
	}
	if got := direct.Kind([]api.Token{hash}); got != direct.Null {
		t.Errorf("P7.1: got %d, want %d", got, direct.Null)
	}
}

// behind is a list of tokens that begins with some, has spare room, and of which two have one list of Sites.
func behind(ahead ...api.Token) []api.Token {
	sites := append(make([]api.Site, 0, 5), api.Site{Macro: "f", Name: api.Span{File: "g.c", From: 3, To: 4}, Made: true}, api.Site{Macro: "h"})
	return append(append(make([]api.Token, 0, 20), ahead...),
		api.Token{Kind: api.Ident, Text: "A", Space: true, Span: api.Span{File: "f.c", From: 8, To: 9}},
		api.Token{Kind: api.Punct, Text: "(", Made: true, Sites: sites},
		api.Token{Kind: api.Pragma, Text: "p q", Space: true, Made: true, Span: api.Span{File: "", From: -1, To: -2}, Sites: sites},
		api.Token{Kind: -7, Text: ""},
		api.Token{},
		api.Token{Kind: api.Punct, Text: "#", Sites: []api.Site{{}}},
	)
}

func TestRestAsItStands(t *testing.T) {
	for _, word := range []string{"if", "define", "pragma", "error", "x", "", "#"} {
		for _, hash := range []string{"#", "%:"} {
			l := behind(api.Token{Kind: api.Punct, Text: hash}, api.Token{Kind: api.Ident, Text: word})
			if got, want := direct.Rest(l), behind(); !reflect.DeepEqual(got, want) {
				t.Errorf("P7.1: Rest behind %q:\n got %+v\nwant %+v", word, got, want)
			}
			l[1].Kind = api.String
			if got, want := direct.Rest(l), behind(); !reflect.DeepEqual(got, want) {
				t.Errorf("P7.1: Rest behind a String %q:\n got %+v\nwant %+v", word, got, want)
			}
			for n := 2; n < len(l); n++ {
				if got := len(direct.Rest(l[:n])); got != n-2 {
					t.Errorf("P7.1: Rest of %d tokens: got %d", n, got)
				}
			}
		}
	}
	l := line(t, "#pragma  a\\\nb/**/+ \"c\"")
	if got, want := direct.Rest(l), line(t, "#pragma  a\\\nb/**/+ \"c\"")[2:]; !reflect.DeepEqual(got, want) || len(got) != 3 {
		t.Errorf("P7.1: Rest:\n got %+v\nwant %+v", got, want)
	}
	for _, hash := range []api.Token{{Kind: api.Other, Text: "#"}, {Kind: api.Punct, Text: "##"}, {}} {
		if got := direct.Rest(behind(hash, api.Token{Kind: api.Ident, Text: "if"})); len(got) != 0 {
			t.Errorf("P7.1: Rest of text: got %+v", got)
		}
	}
}

// spoil changes all that a list has, and its spare room.
func spoil(l []api.Token) {
	wrong := api.Site{Macro: "wrong", Name: api.Span{File: "wrong", From: 99, To: 99}}
	for i := range l {
		sites := l[i].Sites[:cap(l[i].Sites)]
		for j := range sites {
			sites[j] = wrong
		}
	}
	l = l[:cap(l)]
	for i := range l {
		l[i] = api.Token{Kind: 99, Text: "wrong", Sites: []api.Site{wrong}}
	}
}

func TestNewMemory(t *testing.T) {
	hash, word := api.Token{Kind: api.Punct, Text: "#"}, api.Token{Kind: api.Ident, Text: "if"}
	for _, second := range []api.Token{word, {Kind: api.Ident, Text: "x"}, {Kind: api.Number, Text: "1"}} {
		l, want := behind(hash, second), behind(hash, second)
		kept := direct.Rest(l)
		for range 3 {
			spoil(direct.Rest(l))
		}
		if !reflect.DeepEqual(l, want) || !reflect.DeepEqual(l[:cap(l)], want[:cap(want)]) {
			t.Errorf("P7.2: what was answered changed what came in:\n got %+v\nwant %+v", l, want)
		}
		if !reflect.DeepEqual(kept, want[2:]) || !reflect.DeepEqual(direct.Rest(l), want[2:]) {
			t.Errorf("P7.2: what was answered changed another answer: %+v", kept)
		}
		spoil(l[2:])
		if !reflect.DeepEqual(kept, want[2:]) {
			t.Errorf("P7.2: what came in is a part of what was answered: %+v", kept)
		}
	}
}

// Sites that came in as one list are lists of their own in what is answered.
func TestListsOfTheirOwn(t *testing.T) {
	got := direct.Rest(behind(api.Token{Kind: api.Punct, Text: "#"}, api.Token{Kind: api.Ident, Text: "if"}))
	got[1].Sites[0].Macro = "other"
	_ = append(got[1].Sites[:1], api.Site{Macro: "other"})
	if !reflect.DeepEqual(got[2], behind()[2]) {
		t.Errorf("P7.2: two lists of one answer share memory: %+v", got[2])
	}
}

func TestChangesNothing(t *testing.T) {
	for _, l := range [][]api.Token{behind(), behind(api.Token{Kind: api.Punct, Text: "#"}), behind(api.Token{Kind: api.Punct, Text: "%:"}, api.Token{Kind: api.Ident, Text: "else"})} {
		want := append([]api.Token{}, l[:cap(l)]...)
		direct.Kind(l)
		direct.Rest(l)
		if !reflect.DeepEqual(l[:cap(l)], want) {
			t.Errorf("P7.2: what came in was changed:\n got %+v\nwant %+v", l[:cap(l)], want)
		}
	}
}
