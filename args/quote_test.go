package args_test

import (
	"math/rand"
	"regexp"
	"strings"
	"testing"

	"oxbow/api"
	"oxbow/args"
	"oxbow/lex"
)

func TestStringize(t *testing.T) {
	for _, c := range []struct{ text, want string }{
		{``, `""`},
		{`a`, `"a"`},
		{`   a`, `"a"`},
		{`a b`, `"a b"`},
		{`a  /**/	b`, `"a b"`},
		{`  a   b  `, `"a b"`},
		{`a+b`, `"a+b"`},
		{`a +b`, `"a +b"`},
		{`a+ b`, `"a+ b"`},
		{`a,b , (c)`, `"a,b , (c)"`},
		{`1.e+3 .. # ## %:`, `"1.e+3 .. # ## %:"`},
		// Constants.
		{`""`, `"\"\""`},
		{`"a"`, `"\"a\""`},
		{` "a"`, `"\"a\""`},
		{`"a" "b"`, `"\"a\" \"b\""`},
		{`"a""b"`, `"\"a\"\"b\""`},
		{`"a  b"`, `"\"a  b\""`},
		{`"\n"`, `"\"\\n\""`},
		{`"\\"`, `"\"\\\\\""`},
		{`"\""`, `"\"\\\"\""`},
		{`L"a\0"`, `"L\"a\\0\""`},
		{`u8"a"x`, `"u8\"a\"x"`},
		{`'a'`, `"'a'"`},
		{`'"'`, `"'\"'"`},
		{`'\''`, `"'\\''"`},
		{`'\\'`, `"'\\\\'"`},
		{`'\"'`, `"'\\\"'"`},
		{`u'\n'`, `"u'\\n'"`},
		{`"'"`, `"\"'\""`},
		// Of others nothing is turned.
		{`\`, `"\"`},
		{`\n`, `"\n"`},
		{`\ n`, `"\ n"`},
		{`@ \\ $`, `"@ \\ $"`},
		{`"`, `"""`},
		{`'\`, `"'\"`},
		{`a "b`, `"a "b"`},
	} {
		if got := args.Stringize(line(t, c.text)); got != c.want {
			t.Errorf("P10.3: Stringize of %s: got %s, want %s", c.text, got, c.want)
		}
	}
}

// TestStringizeAnyTokens: of tokens as no lex makes them only Kind, Text and Space count.
func TestStringizeAnyTokens(t *testing.T) {
	for kind := -1; kind <= 8; kind++ {
		constant := kind == api.String || kind == api.Char
		for text, turned := range map[string]string{"": "", "a": "a", "\\": `\\`, "\"": `\"`, "a\"\"\\\\b\n\x00\xff'": `a\"\"\\\\b` + "\n\x00\xff'"} {
			if !constant {
				turned = text
			}
			l := []api.Token{
				{Kind: kind, Text: text, Space: true, Made: true, Span: api.Span{File: "x\"\\"}, Sites: []api.Site{{Macro: "\"", Made: true}}},
				{Kind: kind, Text: text},
				{Kind: kind, Text: text, Space: true},
			}
			want := `"` + turned + turned + " " + turned + `"`
			if got := args.Stringize(l); got != want {
				t.Errorf("P10.3: Stringize of %q of kind %d: got %q, want %q", text, kind, got, want)
			}
			if got := args.Stringize(l[:1]); got != `"`+turned+`"` {
				t.Errorf("P10.3: Stringize of one, %q of kind %d: got %q", text, kind, got)
			}
		}
	}
	if got := args.Stringize([]api.Token{{}, {Space: true}, {}, {Space: true}}); got != `"  "` {
		t.Errorf("P10.3: Stringize of empty Texts: got %q", got)
	}
}

// TestStringizeUnquote: the string of tokens without a stray quote or \ tells their text.
func TestStringizeUnquote(t *testing.T) {
	random := rand.New(rand.NewSource(103))
	pieces := strings.Split(`a|b1| |  |/**/|1e+2|.5|+|##|(|,|)|"x"|"\\"|"\""|"\n\"\\"|L"a"|u8""|'x'|'"'|'\''|'\\'|U'\"'|@|$`, "|")
	for range 20000 {
		var text strings.Builder
		for range random.Intn(12) {
			text.WriteString(pieces[random.Intn(len(pieces))])
		}
		l := line(t, text.String())
		if got, ok := args.Unquote(args.Stringize(l)); got != lex.Text(l) || !ok {
			t.Fatalf("P10.3: Unquote of Stringize of %s: got %s, %v", text.String(), got, ok)
		}
	}
}

func TestQuoted(t *testing.T) {
	for text, want := range map[string]string{
		``:         `""`,
		`a`:        `"a"`,
		` a  b `:   `" a  b "`,
		`"`:        `"\""`,
		`\`:        `"\\"`,
		`\"`:       `"\\\""`,
		`"\`:       `"\"\\"`,
		`a"b\c`:    `"a\"b\\c"`,
		`""\\`:     `"\"\"\\\\"`,
		`'`:        `"'"`,
		`\n`:       `"\\n"`,
		`L"a"`:     `"L\"a\""`,
		"a\nb":     "\"a\nb\"",
		"\\\n":     "\"\\\\\n\"",
		"\x00\xff": "\"\x00\xff\"",
		"é\t?\r":   "\"é\t?\r\"",
	} {
		if got := args.Quoted(text); got != want {
			t.Errorf("P10.3: Quoted of %q: got %q, want %q", text, got, want)
		}
	}
}

func TestUnquote(t *testing.T) {
	for _, c := range []struct{ text, want string }{
		{`""`, ``},
		{`"a"`, `a`},
		{`L"a"`, `a`},
		{`u"a"`, `a`},
		{`U"a"`, `a`},
		{`u8"a"`, `a`},
		{`u8""`, ``},
		{`" a  b "`, ` a  b `},
		{`"//"`, `//`},
		{`"/*"`, `/*`},
		{`"'"`, `'`},
		{`"L"`, `L`},
		{`"??/"`, `??/`},
		{`"\""`, `"`},
		{`"\\"`, `\`},
		{`"\\\""`, `\"`},
		{`"\"\\"`, `"\`},
		{`"\\\\"`, `\\`},
		{`"\"\""`, `""`},
		{`"a\"b\\c"`, `a"b\c`},
		{`L"a\"b\\c"`, `a"b\c`},
		{`"\n"`, `\n`},
		{`"\'"`, `\'`},
		{`"\\n"`, `\n`},
		{`"\a\\\b\"\c"`, `\a\\b"\c`},
		{`"\?\x41\0\u1234"`, `\?\x41\0\u1234`},
		{"\"\x00\t\r\xff\\\x00\"", "\x00\t\r\xff\\\x00"},
	} {
		if got, ok := args.Unquote(c.text); got != c.want || !ok {
			t.Errorf("P10.3: Unquote of %q: got %q, %v, want %q", c.text, got, ok, c.want)
		}
	}
	for _, text := range []string{
		``, `a`, `L`, `u8`, `1`, `+`, `\`, ` `, `'`, `'a'`, `L'a'`, `'"a"'`, `//`, `/**/`, "\n",
		`"`, `"a`, `a"`, `L"`, `L"a`, `"\"`, `"\\\"`, `"a\"`, `u8"\"`,
		`"a" `, ` "a"`, `"a"b`, `"a"b"`, `"a""b"`, `"a" "b"`, `"""`, `""""`, "\"a\"\n", `"a"/**/`, `/**/"a"`,
		`l"a"`, `x"a"`, `R"a"`, `U8"a"`, `u9"a"`, `8"a"`, `u 8"a"`, `L "a"`, `LL"a"`, `Lu"a"`, `uL"a"`, `u8u8"a"`, `u88"a"`, `_L"a"`, `\"a"`,
		"\"\n\"", "\"a\nb\"", "\"\\\n\"", "\"a\\\nb\"", "\"??/\n\"",
	} {
		if got, ok := args.Unquote(text); got != "" || ok {
			t.Errorf("P10.3: Unquote of %q: got %q, %v", text, got, ok)
		}
	}
}

// The oracle goes over runes that have the bytes' numbers, so that each byte is one of them.
var (
	str  = regexp.MustCompile(`^(?:L|u|U|u8)?"((?:\\[^\n]|[^\\"\n])*)"$`)
	pair = regexp.MustCompile(`\\(["\\])`)
)

func wide(text string) string {
	var l []rune
	for i := range len(text) {
		l = append(l, rune(text[i]))
	}
	return string(l)
}

func narrow(text string) string {
	var l []byte
	for _, r := range text {
		l = append(l, byte(r))
	}
	return string(l)
}

// unquoteAsOracle holds Unquote against the oracle.
func unquoteAsOracle(t *testing.T, text string) bool {
	t.Helper()
	want, parts := "", str.FindStringSubmatch(wide(text))
	if parts != nil {
		want = narrow(pair.ReplaceAllString(parts[1], "$1"))
	}
	if got, ok := args.Unquote(text); got != want || ok != (parts != nil) {
		t.Fatalf("P10.3: Unquote of %q: got %q, %v, want %q, %v", text, got, ok, want, parts != nil)
	}
	return parts != nil
}

func TestUnquoteAllShortTexts(t *testing.T) {
	var all func(text string, n int)
	all = func(text string, n int) {
		unquoteAsOracle(t, text)
		if n > 0 {
			for _, c := range "\"\\aLu8U\n '" {
				all(text+string(c), n-1)
			}
		}
	}
	all("", 5)
	for _, head := range []string{`"`, `L"`, `u8"`} {
		all(head, 5)
	}
}

// letters is a text of some bytes, mostly of those that a string turns.
func letters(random *rand.Rand, n int) string {
	l := make([]byte, n)
	for i := range l {
		l[i] = "\"\\\"\\an/*'?"[random.Intn(10)]
		if random.Intn(6) == 0 {
			l[i] = byte(random.Intn(256))
		}
	}
	return string(l)
}

func TestUnquoteRandomTexts(t *testing.T) {
	random := rand.New(rand.NewSource(104))
	right := 0
	for range 100000 {
		head := []string{"", "", "L", "u", "U", "u8", "u9", " "}[random.Intn(8)]
		if unquoteAsOracle(t, head+`"`+letters(random, random.Intn(9))+`"`) {
			right++
		}
	}
	if right < 10000 || right > 90000 {
		t.Errorf("%d of the texts are strings", right)
	}
}

// TestThereAndBack: what Quoted makes Unquote takes back, unless a byte 10 is in it.
func TestThereAndBack(t *testing.T) {
	back := func(s string) {
		t.Helper()
		for _, head := range []string{"", "L", "u", "U", "u8"} {
			text := head + args.Quoted(s)
			got, ok := args.Unquote(text)
			if strings.Contains(s, "\n") {
				if got != "" || ok {
					t.Fatalf("P10.3: Unquote of %q: got %q, %v", text, got, ok)
				}
			} else if got != s || !ok {
				t.Fatalf("P10.4: Unquote of %q: got %q, %v, want %q", text, got, ok, s)
			}
		}
	}
	for a := range 256 {
		back(string([]byte{byte(a)}))
		for b := range 256 {
			back(string([]byte{byte(a), byte(b)}))
		}
	}
	random := rand.New(rand.NewSource(105))
	for range 20000 {
		back(letters(random, random.Intn(40)))
	}
	for _, c := range []string{"a", "\"", "\\", "\\\"", "\"\\"} {
		back(strings.Repeat(c, 1000000))
	}
}
