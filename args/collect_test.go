package args_test

import (
	"fmt"
	"math/rand"
	"slices"
	"strings"
	"testing"

	"oxbow/api"
	"oxbow/args"
	"oxbow/lex"
)

// line is the tokens of a text of one line.
func line(t *testing.T, text string) []api.Token {
	t.Helper()
	l, _ := lex.Lines("f.c", text)
	if len(l) > 1 {
		t.Fatalf("%q has %d lines", text, len(l))
	}
	if len(l) == 0 {
		return nil
	}
	return l[0].Toks
}

// sameToken compares all that two tokens have.
func sameToken(a, b api.Token) bool {
	return a.Kind == b.Kind && a.Text == b.Text && a.Space == b.Space && a.Span == b.Span && a.Made == b.Made && slices.Equal(a.Sites, b.Sites)
}

func sameTokens(a, b []api.Token) bool {
	return slices.EqualFunc(a, b, sameToken)
}

func sameLists(a, b [][]api.Token) bool {
	return slices.EqualFunc(a, b, sameTokens)
}

// told is lists as a test writes them: each one's tokens, with | between the lists.
func told(list [][]api.Token) string {
	var out []string
	for _, l := range list {
		out = append(out, lex.Text(l))
	}
	return strings.Join(out, "|")
}

func TestCollect(t *testing.T) {
	for _, c := range []struct {
		text string
		want string // the lists, with | between
		used int
	}{
		{"()", "", 2},
		{"( )", "", 2},
		{"(/**/)", "", 2},
		{" ()", "", 2},
		{"(a)", "a", 3},
		{"( a )", "a", 3},
		{"(a b+c)", "a b+c", 6},
		{"(a,b)", "a|b", 5},
		{"(a , b)", "a|b", 5},
		{"(a b,c d)", "a b|c d", 7},
		{"(,)", "|", 3},
		{"(,,)", "||", 4},
		{"(a,)", "a|", 4},
		{"(,a)", "|a", 4},
		{"(a,,b)", "a||b", 6},
		{"(a,(b,c))", "a|(b,c)", 9},
		{"((a,b),c)", "(a,b)|c", 9},
		{"((a,b))", "(a,b)", 7},
		{"((),())", "()|()", 7},
		{"((((,))),,)", "(((,)))||", 11},
		{"(a(b,c)d(e,f)g,h)", "a(b,c)d(e,f)g|h", 17},
		{"()()", "", 2},
		{"(a)(b,c)", "a", 3},
		{"(a) b, c)", "a", 3},
		{"(a)) b", "a", 3},
		{"(a,b)(", "a|b", 5},
		// No other brackets count, nor do what lies in constants.
		{"([a,b],{c,d},<e,f>)", "[a|b]|{c|d}|<e|f>", 19},
		{"([)", "[", 3},
		{"(a])", "a]", 4},
		{"(<:a,b:>)", "<:a|b:>", 7},
		{"(\")\",'(',\",\")", "\")\"|'('|\",\"", 7},
		{"(a;b,#c,##d)", "a;b|#c|##d", 11},
		{"(a, ..., b)", "a|...|b", 7},
		{"(a,/*,*/b//,)\n", "", 0},
		{"(a\\\n,b)", "a|b", 5},
		// None.
		{"", "", 0},
		{"a", "", 0},
		{"a()", "", 0},
		{",", "", 0},
		{")", "", 0},
		{")(", "", 0},
		{")()", "", 0},
		{"[a]", "", 0},
		{"{a}", "", 0},
		{"<a>", "", 0},
		{"\"(\")", "", 0},
		{"(", "", 0},
		{"(a", "", 0},
		{"(a,b", "", 0},
		{"(,,,", "", 0},
		{"((a)", "", 0},
		{"((a),b", "", 0},
		{"(a]", "", 0},
		{"(a}", "", 0},
		{"(\")\"", "", 0},
	} {
		l := line(t, c.text)
		list, commas, used, ok := args.Collect(l)
		if told(list) != c.want || used != c.used || ok != (c.used > 0) {
			t.Errorf("P10.1: Collect of %q: got %q, %d, %v, want %q, %d", c.text, told(list), used, ok, c.want, c.used)
		}
		if want, wantCommas, _, _ := model(l); !sameLists(list, want) || !sameTokens(commas, wantCommas) {
			t.Errorf("P10.1: Collect of %q:\n got %+v, %+v\nwant %+v, %+v", c.text, list, commas, want, wantCommas)
		}
	}
}

// TestCollectAsTheyStand: each token is answered as it came in.
func TestCollectAsTheyStand(t *testing.T) {
	l := line(t, "(a , b c,)")
	for i := range l {
		l[i].Made = i%2 == 0
		l[i].Sites = []api.Site{{Macro: "m", Made: true}, {Name: api.Span{File: "g", From: i}}}
	}
	list, commas, used, ok := args.Collect(l)
	want := [][]api.Token{l[1:2], l[3:5], nil}
	if !sameLists(list, want) || !sameTokens(commas, []api.Token{l[2], l[5]}) || used != 7 || !ok {
		t.Errorf("P10.1: got %+v, %+v, %d, %v", list, commas, used, ok)
	}
}

// TestCollectKinds: a sign is a Punct, and no token of another Kind with its Text.
func TestCollectKinds(t *testing.T) {
	of := func(kind int, text string) api.Token { return api.Token{Kind: kind, Text: text} }
	open, shut, comma := of(api.Punct, "("), of(api.Punct, ")"), of(api.Punct, ",")
	for _, kind := range []int{-1, 0, api.Ident, api.Number, api.Char, api.String, api.Other, api.Pragma, 8} {
		if list, commas, used, ok := args.Collect([]api.Token{of(kind, "("), shut}); len(list) > 0 || len(commas) > 0 || used != 0 || ok {
			t.Errorf("P10.1: a ( of kind %d: got %+v, %+v, %d, %v", kind, list, commas, used, ok)
		}
		if list, commas, used, ok := args.Collect([]api.Token{open, of(kind, ")")}); len(list) > 0 || len(commas) > 0 || used != 0 || ok {
			t.Errorf("P10.1: a ) of kind %d: got %+v, %+v, %d, %v", kind, list, commas, used, ok)
		}
		row := []api.Token{open, of(kind, "("), comma, of(kind, ")"), of(kind, ","), shut, shut}
		list, commas, used, ok := args.Collect(row)
		if !sameLists(list, [][]api.Token{row[1:2], row[3:5]}) || !sameTokens(commas, []api.Token{comma}) || used != 6 || !ok {
			t.Errorf("P10.1: signs of kind %d: got %+v, %+v, %d, %v", kind, list, commas, used, ok)
		}
	}
}

// signs is a row of tokens, each as one byte: a bracket, a comma, or else x.
func signs(l []api.Token) string {
	row := make([]byte, len(l))
	for i, t := range l {
		row[i] = 'x'
		if t.Kind == api.Punct && (t.Text == "(" || t.Text == ")" || t.Text == ",") {
			row[i] = t.Text[0]
		}
	}
	return string(row)
}

// even is whether a row has as many of one bracket as of the other.
func even(row string) bool {
	return strings.Count(row, "(") == strings.Count(row, ")")
}

// model is Collect, that counts the brackets of each piece of the row anew.
func model(l []api.Token) (list [][]api.Token, commas []api.Token, used int, ok bool) {
	row := signs(l)
	if !strings.HasPrefix(row, "(") {
		return nil, nil, 0, false
	}
	end := 1
	for end <= len(row) && !even(row[:end]) {
		end++
	}
	if end > len(row) {
		return nil, nil, 0, false
	}
	list = [][]api.Token{nil}
	for i := 1; i < end-1; i++ {
		if row[i] == ',' && even(row[1:i]) {
			commas = append(commas, l[i])
			list = append(list, nil)
		} else {
			list[len(list)-1] = append(list[len(list)-1], l[i])
		}
	}
	return list, commas, end, true
}

// asModel holds Collect against the model.
func asModel(t *testing.T, l []api.Token) bool {
	t.Helper()
	list, commas, used, ok := args.Collect(l)
	want, wantCommas, wantUsed, wantOK := model(l)
	if !sameLists(list, want) || !sameTokens(commas, wantCommas) || used != wantUsed || ok != wantOK {
		t.Fatalf("P10.1: Collect of %q:\n got %+v, %+v, %d, %v\nwant %+v, %+v, %d, %v", lex.Text(l), list, commas, used, ok, want, wantCommas, wantUsed, wantOK)
	}
	return ok
}

// row is tokens by their places in an alphabet, each with a Span of its own.
func row(alphabet []api.Token, places []int) []api.Token {
	l := make([]api.Token, len(places))
	for i, place := range places {
		l[i] = alphabet[place]
		l[i].Span = api.Span{File: "m", From: 10*i + 1, To: 10*i + 5}
	}
	return l
}

var alphabet = []api.Token{
	{Kind: api.Punct, Text: "("},
	{Kind: api.Punct, Text: ")", Space: true},
	{Kind: api.Punct, Text: ","},
	{Kind: api.Ident, Text: "a", Space: true},
	{Kind: api.Punct, Text: "["},
	{Kind: api.Other, Text: ")"},
}

func TestCollectAllShortRows(t *testing.T) {
	for n := range 8 {
		places := make([]int, n)
		for {
			asModel(t, row(alphabet, places))
			at := n - 1
			for ; at >= 0 && places[at] == len(alphabet)-1; at-- {
				places[at] = 0
			}
			if at < 0 {
				break
			}
			places[at]++
		}
	}
}

func TestCollectRandomRows(t *testing.T) {
	random := rand.New(rand.NewSource(10))
	right := 0
	for range 20000 {
		places := make([]int, random.Intn(60))
		for i := range places {
			places[i] = random.Intn(len(alphabet))
		}
		if len(places) > 0 && random.Intn(8) > 0 {
			places[0] = 0
		}
		if asModel(t, row(alphabet, places)) {
			right++
		}
	}
	if right < 5000 || right > 18000 {
		t.Errorf("%d of the rows are arguments", right)
	}
}

// TestCollectMany: long rows, and brackets deep in one another.
func TestCollectMany(t *testing.T) {
	const many = 300000
	texts := func(l ...string) []api.Token {
		var out []api.Token
		for _, text := range l {
			for i := range text {
				out = append(out, api.Token{Kind: api.Punct, Text: text[i : i+1]})
			}
		}
		return out
	}
	deep := texts(strings.Repeat("(", many), ",", strings.Repeat(")", many))
	list, commas, used, ok := args.Collect(deep)
	if len(list) != 1 || len(list[0]) != 2*many-1 || len(commas) > 0 || used != 2*many+1 || !ok {
		t.Errorf("P10.1: deep brackets: got %d lists, %d commas, %d, %v", len(list), len(commas), used, ok)
	}
	if _, _, used, ok := args.Collect(deep[:2*many]); used != 0 || ok {
		t.Errorf("P10.1: deep brackets that do not end: got %d, %v", used, ok)
	}
	list, commas, used, ok = args.Collect(texts("(", strings.Repeat(",", many), ")"))
	if len(list) != many+1 || len(commas) != many || used != many+2 || !ok {
		t.Errorf("P10.1: many commas: got %d lists, %d commas, %d, %v", len(list), len(commas), used, ok)
	}
	if list, commas, used, ok = args.Collect(texts("(", strings.Repeat(",", many))); len(list) > 0 || len(commas) > 0 || used != 0 || ok {
		t.Errorf("P10.1: many commas that do not end: got %d lists, %d commas, %d, %v", len(list), len(commas), used, ok)
	}
}

// TestCollectNoFarther: what stands behind the closing bracket, or behind what is no bracket, is not gone through: else this would not end.
func TestCollectNoFarther(t *testing.T) {
	behind := make([]api.Token, 500000)
	for head, want := range map[string]int{"(a,b)": 5, "()": 2, "a(": 0, "": 0} {
		l := append(line(t, head), behind...)
		for range 100000 {
			if _, _, used, ok := args.Collect(l); used != want || ok != (want > 0) {
				t.Fatalf("P10.1: Collect of %q: got %d, %v", head, used, ok)
			}
		}
	}
}

func ExampleCollect() {
	lines, _ := lex.Lines("f.c", "(a,(b,c)) d")
	list, commas, used, ok := args.Collect(lines[0].Toks)
	fmt.Println(told(list), len(commas), used, ok)
	// Output: a|(b,c) 1 9 true
}
