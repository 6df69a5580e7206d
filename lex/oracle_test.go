package lex_test

import (
	"math/rand"
	"regexp"
	"slices"
	"strconv"
	"strings"
	"testing"

	"oxbow/api"
	"oxbow/lex"
	"oxbow/phase"
)

const puncts = `[ ] ( ) { } . -> ++ -- & * + - ~ ! / % << >> < > <= >= == != ^ | && || ? : ; ... = *= /= %= += -= <<= >>= &= ^= |= , # ## <: :> <% %> %: %:%:`

// The oracle: expressions, one for each thing that may begin at a place, the first one that fits is it. They go over runes that have the bytes' numbers, so that each byte is one of them.
var things = []struct {
	kind int // of a token; else -1, and -2 of a comment that does not end
	is   *regexp.Regexp
}{
	{-1, regexp.MustCompile(`^[ \t\v\f\r]`)},
	{-1, regexp.MustCompile(`(?s)^/\*.*?\*/`)},
	{-2, regexp.MustCompile(`(?s)^/\*.*`)},
	{-1, regexp.MustCompile(`^//[^\n]*`)},
	{api.String, regexp.MustCompile(`^(?:L|u8|u|U)?"(?:\\[^\n]|[^\\"\n])*"`)},
	{api.Char, regexp.MustCompile(`^[LuU]?'(?:\\[^\n]|[^\\'\n])*'`)},
	{api.Ident, regexp.MustCompile(`^[A-Za-z_][A-Za-z_0-9]*`)},
	{api.Number, regexp.MustCompile(`^\.?[0-9](?:[eEpP][+-]|[A-Za-z_0-9.])*`)},
	{api.Punct, regexp.MustCompile(`^(?:` + strings.Join(punctsLongestFirst(), "|") + `)`)},
	{api.Other, regexp.MustCompile(`^[^\n]`)},
}

func punctsLongestFirst() []string {
	all := strings.Fields(puncts)
	slices.SortStableFunc(all, func(a, b string) int { return len(b) - len(a) })
	for i := range all {
		all[i] = regexp.QuoteMeta(all[i])
	}
	return all
}

// thing is the kind of what begins a text of such runes, and how many of them it has.
func thing(rest string) (kind, n int) {
	for _, x := range things {
		if m := x.is.FindString(rest); m != "" {
			return x.kind, len([]rune(m))
		}
	}
	return 0, 0 // a byte 10
}

func wide(text string) []rune {
	var l []rune
	for i := range len(text) {
		l = append(l, rune(text[i]))
	}
	return l
}

func narrow(l []rune) string {
	var text []byte
	for _, r := range l {
		text = append(text, byte(r))
	}
	return string(text)
}

func isQuote(text string) bool { return text == `"` || text == `'` }

func wantLines(file, text string) (lines []lex.Line, diags []api.Diag) {
	places := phase.Chars(text)
	var chars []rune
	for _, p := range places {
		chars = append(chars, rune(p.C))
	}
	line, space := lex.Line{}, false
	end := func(at int) {
		line.To = len(text)
		if at < len(chars) {
			line.To = places[at-1].To
		}
		lines = append(lines, line)
		line, space = lex.Line{From: line.To}, false
	}
	for at := 0; at < len(chars); {
		if chars[at] == '\n' {
			at++
			end(at)
			continue
		}
		kind, n := thing(string(chars[at:]))
		span := api.Span{File: file, From: places[at].From, To: places[at+n-1].To}
		one := narrow(chars[at : at+n])
		at += n
		switch {
		case kind == -1:
			space = true
		case kind == -2:
			span.To = places[at-n+1].To
			diags = append(diags, api.Diag{Code: api.DComment, Span: span})
			line.Open = true
			end(at)
		default:
			if kind == api.Other && isQuote(one) {
				diags = append(diags, api.Diag{Code: api.DQuote, Span: span})
			}
			line.Toks = append(line.Toks, api.Token{Kind: kind, Text: one, Space: space, Span: span})
			space = false
		}
	}
	return lines, diags
}

func wantOne(text string) (api.Token, bool) {
	kind, n := thing(string(wide(text)))
	if kind <= 0 || n != len(text) || kind == api.Other && isQuote(text) {
		return api.Token{}, false
	}
	return api.Token{Kind: kind, Text: text}, true
}

// told is lines and diagnostics as a test writes them: of each line its From and To, ! if it is Open, and its tokens: a blank, if it has Space, its kind's letter, its Text and its Span.
func told(lines []lex.Line, diags []api.Diag) string {
	var text strings.Builder
	for i, l := range lines {
		if i > 0 {
			text.WriteString(" ")
		}
		text.WriteString(bytes(l.From, l.To))
		if l.Open {
			text.WriteString("!")
		}
		text.WriteString("{" + toldToks(l.Toks) + "}")
	}
	for _, d := range diags {
		text.WriteString(" D" + strconv.Itoa(d.Code) + "@" + bytes(d.Span.From, d.Span.To))
	}
	return text.String()
}

func toldToks(l []api.Token) string {
	var text []string
	for _, t := range l {
		one := "?INCSPO"[t.Kind:t.Kind+1] + " " + t.Text + " " + bytes(t.Span.From, t.Span.To)
		if t.Space {
			one = "_" + one
		}
		text = append(text, one)
	}
	return strings.Join(text, ", ")
}

func bytes(from, to int) string { return strconv.Itoa(from) + "-" + strconv.Itoa(to) }

func sameToken(a, b api.Token) bool {
	return a.Kind == b.Kind && a.Text == b.Text && a.Space == b.Space && a.Span == b.Span && a.Made == b.Made && len(a.Sites) == len(b.Sites)
}

func sameLine(a, b lex.Line) bool {
	return a.From == b.From && a.To == b.To && a.Open == b.Open && slices.EqualFunc(a.Toks, b.Toks, sameToken)
}

func linesAsOracle(t *testing.T, text string) {
	t.Helper()
	lines, diags := lex.Lines("f.c", text)
	want, wantDiags := wantLines("f.c", text)
	if !slices.EqualFunc(lines, want, sameLine) || !slices.Equal(diags, wantDiags) {
		t.Errorf("P5.1: Lines of %.100q:\n got %.600q\nwant %.600q", text, told(lines, diags), told(want, wantDiags))
	}
}

func oneAsOracle(t *testing.T, text string) {
	t.Helper()
	got, ok := lex.One(text)
	want, is := wantOne(text)
	if ok != is || !sameToken(got, want) {
		t.Errorf("P5.2: One(%.100q): got %s, %v, want %s, %v", text, toldToks([]api.Token{got}), ok, toldToks([]api.Token{want}), is)
	}
}

// anyOf is each text of at most n of these pieces.
func anyOf(pieces []string, n int, see func(text string)) {
	var put func(text string, n int)
	put = func(text string, n int) {
		see(text)
		if n == 0 {
			return
		}
		for _, piece := range pieces {
			put(text+piece, n-1)
		}
	}
	put("", n)
}

// somePieces is what a program's text has, and what is near it.
func somePieces() []string {
	all := strings.Fields(puncts)
	return append(all, strings.Split("\x00 | |\t|\v|\f|\r|\n|\n|\n|\\\n|\\\n|??/\n|\\|\\|??/|??=|??(|??|?|\"|\"|'|'|\\\"|\\'|\\\\|L|u|U|u8|L\"|u8'|/*|/*|*/|*/|//|/*/|/**/|a|_|x1|int|e|E|p|P|0|1|9|0x1p|1e|.5|.|..|%:%|@|$|`|\x00|\x7f|\x80|\xff|é", "|")...)
}

// someTexts is texts of about n bytes, the same ones in each run.
func someTexts(count, n int, see func(text string)) {
	random := rand.New(rand.NewSource(5))
	pieces := somePieces()
	for range count {
		var text strings.Builder
		for text.Len() < n {
			switch random.Intn(20) {
			case 0:
				text.WriteByte(byte(random.Intn(256)))
			default:
				text.WriteString(pieces[random.Intn(len(pieces))])
			}
		}
		see(text.String())
	}
}

// eachByte is a text of each byte.
func eachByte(see func(c string)) {
	for c := range 256 {
		see(string([]byte{byte(c)}))
	}
}
