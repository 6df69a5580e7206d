package macro_test

import (
	"fmt"
	"math"
	"slices"
	"strings"
	"testing"

	"oxbow/api"
	"oxbow/lex"
	"oxbow/macro"
)

// line is the tokens of a text of one line.
func line(t *testing.T, text string) []api.Token {
	t.Helper()
	l, _ := lex.Lines("f.c", text)
	if len(l) > 1 {
		t.Fatalf("%q has %d lines", text, len(l))
	}
	if len(l) == 0 {
		return nil
	}
	return l[0].Toks
}

// told is what Parse tells, in short: the code and the Span of what is wrong, or else the macro.
func told(m macro.Macro, diags []api.Diag) string {
	var out []string
	for _, d := range diags {
		out = append(out, fmt.Sprintf("%d%v", d.Code, d.Span))
	}
	if m.Name != "" || m.Func || m.Variadic || len(m.Params) > 0 || len(m.Body) > 0 || m.Span != (api.Span{}) {
		kind := ""
		if m.Func {
			kind = "(" + strings.Join(m.Params, " ") + ")"
		}
		if m.Variadic {
			kind += "v"
		}
		out = append(out, fmt.Sprint(m.Name, kind, m.Span, " ", lex.Text(m.Body)))
	}
	return strings.Join(out, "; ")
}

func TestParse(t *testing.T) {
	for _, c := range []struct{ text, want string }{
		// No name.
		{"", "4{ 0 0}"},
		{"  /* A */ ", "4{ 0 0}"},
		{"1", "4{f.c 0 1}"},
		{" 1A x", "4{f.c 1 3}"},
		{"\"A\" x", "4{f.c 0 3}"},
		{"'A' x", "4{f.c 0 3}"},
		{"(A) x", "4{f.c 0 1}"},
		{"## A", "4{f.c 0 2}"},
		{"@", "4{f.c 0 1}"},
		{"/**/...", "4{f.c 4 7}"},
		// Names that may be no macro's.
		{"defined", "5{f.c 0 7}"},
		{" defined(x) x", "5{f.c 1 8}"},
		{"__FILE__ 1", "5{f.c 0 8}"},
		{"__LINE__", "5{f.c 0 8}"},
		{"__VA_ARGS__", "5{f.c 0 11}"},
		{"__VA_ARGS__(x ## ", "5{f.c 0 11}"},
		{"__LI\\\nNE__", "5{f.c 0 10}"},
		{"Defined", "Defined{f.c 0 7} "},
		{"define", "define{f.c 0 6} "},
		{"__file__ 1", "__file__{f.c 0 8} 1"},
		{"__FILE 1", "__FILE{f.c 0 6} 1"},
		{"__LINE___ 1", "__LINE___{f.c 0 9} 1"},
		{"__VA_ARGS 1", "__VA_ARGS{f.c 0 9} 1"},
		{"__DATE__ 1", "__DATE__{f.c 0 8} 1"},
		{"__VA_OPT__ 1", "__VA_OPT__{f.c 0 10} 1"},
		{"int long", "int{f.c 0 3} long"},
		{"_", "_{f.c 0 1} "},
		// No Func.
		{"A", "A{f.c 0 1} "},
		{" A\n", "A{f.c 1 2} "},
		{"A b", "A{f.c 0 1} b"},
		{"A   b /**/  c", "A{f.c 0 1} b c"},
		{"A+b", "A{f.c 0 1} +b"},
		{"A\"b\"", "A{f.c 0 1} \"b\""},
		{"A)", "A{f.c 0 1} )"},
		{"A (x) y", "A{f.c 0 1} (x) y"},
		{"A (x", "A{f.c 0 1} (x"},
		{"A/**/(x", "A{f.c 0 1} (x"},
		{"A (a,a)", "A{f.c 0 1} (a,a)"},
		{"A A", "A{f.c 0 1} A"},
		{"A defined __FILE__ __LINE__", "A{f.c 0 1} defined __FILE__ __LINE__"},
		{"A,b", "A{f.c 0 1} ,b"},
		{"A...", "A{f.c 0 1} ..."},
		{"A '", "A{f.c 0 1} '"},
		{"A[(]", "A{f.c 0 1} [(]"},
		// A Func, and its parameters.
		{"F()", "F(){f.c 0 1} "},
		{" F( ) b", "F(){f.c 1 2} b"},
		{"F()()", "F(){f.c 0 1} ()"},
		{"F\\\n()b", "F(){f.c 0 1} b"},
		{"F(a)", "F(a){f.c 0 1} "},
		{"F(a)a", "F(a){f.c 0 1} a"},
		{"F( a ,/**/b,c ) a+b c", "F(a b c){f.c 0 1} a+b c"},
		{"F(F) F", "F(F){f.c 0 1} F"},
		{"F(a,A) aA", "F(a A){f.c 0 1} aA"},
		{"F(defined,__FILE__,__LINE__) 1", "F(defined __FILE__ __LINE__){f.c 0 1} 1"},
		{"F(...) b", "F(__VA_ARGS__)v{f.c 0 1} b"},
		{"F( ... ) b", "F(__VA_ARGS__)v{f.c 0 1} b"},
		{"F(a,...)", "F(a __VA_ARGS__)v{f.c 0 1} "},
		{"F(a, b , ... ) __VA_ARGS__", "F(a b __VA_ARGS__)v{f.c 0 1} __VA_ARGS__"},
		{"F(a)(b", "F(a){f.c 0 1} (b"},
		{"F(a)...", "F(a){f.c 0 1} ..."},
		{"F(a)\\\n b", "F(a){f.c 0 1} b"},
		// Parameters that are otherwise.
		{"F(", "5{f.c 0 1}"},
		{" F(", "5{f.c 1 2}"},
		{"F( a", "5{f.c 0 1}"},
		{"F(a,", "5{f.c 0 1}"},
		{"F(a,b", "5{f.c 0 1}"},
		{"F(...", "5{f.c 0 1}"},
		{"F(a,...", "5{f.c 0 1}"},
		{"F(,)", "5{f.c 0 1}"},
		{"F(a,)", "5{f.c 0 1}"},
		{"F(,a)", "5{f.c 0 1}"},
		{"F(a,,b)", "5{f.c 0 1}"},
		{"F(a b)", "5{f.c 0 1}"},
		{"F(a;b)", "5{f.c 0 1}"},
		{"F(a.b)", "5{f.c 0 1}"},
		{"F(1)", "5{f.c 0 1}"},
		{"F(a,1)", "5{f.c 0 1}"},
		{"F(\"a\")", "5{f.c 0 1}"},
		{"F((a))", "5{f.c 0 1}"},
		{"F((", "5{f.c 0 1}"},
		{"F(a(", "5{f.c 0 1}"},
		{"F(#a)", "5{f.c 0 1}"},
		{"F(...,a)", "5{f.c 0 1}"},
		{"F(...,)", "5{f.c 0 1}"},
		{"F(...,...)", "5{f.c 0 1}"},
		{"F(a...)", "5{f.c 0 1}"},
		{"F(... a)", "5{f.c 0 1}"},
		{"F(a,... ...)", "5{f.c 0 1}"},
		{"F(..)", "5{f.c 0 1}"},
		{"F(a,a)", "5{f.c 0 1}"},
		{"F(a,b,a) 1", "5{f.c 0 1}"},
		{"F(b,a,c,a) 1", "5{f.c 0 1}"},
		{"F(a,b,b,...) 1", "5{f.c 0 1}"},
		{"F(a,a", "5{f.c 0 1}"},
		{"F(__VA_ARGS__)", "5{f.c 0 1}"},
		{"F(a,__VA_ARGS__)", "5{f.c 0 1}"},
		{"F(__VA_ARGS__,a)", "5{f.c 0 1}"},
		{"F(__VA_ARGS__,...)", "5{f.c 0 1}"},
		{"F(__VA_ARGS__...)", "5{f.c 0 1}"},
		{"F(a,a) ##", "5{f.c 0 1}"},
		{"F(a}", "5{f.c 0 1}"},
		// Pastes.
		{"A ##", "5{f.c 2 4}"},
		{"A##", "5{f.c 1 3}"},
		{"A %:%:", "5{f.c 2 6}"},
		{"A ??=??=", "5{f.c 2 8}"},
		{"A ##x", "5{f.c 2 4}"},
		{"A x##", "5{f.c 3 5}"},
		{"A x %:%:", "5{f.c 4 8}"},
		{"A ## x ##", "5{f.c 2 4}"},
		{"A x##y", "A{f.c 0 1} x##y"},
		{"A x %:%: y", "A{f.c 0 1} x %:%: y"},
		{"A x#### y", "A{f.c 0 1} x#### y"},
		{"A x## ##", "5{f.c 6 8}"},
		{"A ## ##", "5{f.c 2 4}"},
		{"A '##'", "A{f.c 0 1} '##'"},
		{"F() ##", "5{f.c 4 6}"},
		{"F(a)##a", "5{f.c 4 6}"},
		{"F(a) a##", "5{f.c 6 8}"},
		{"F(a,b)a##b", "F(a b){f.c 0 1} a##b"},
		{"F(...) __VA_ARGS__ ## x", "F(__VA_ARGS__)v{f.c 0 1} __VA_ARGS__ ## x"},
		{"F(a,...) a , ## __VA_ARGS__", "F(a __VA_ARGS__)v{f.c 0 1} a , ## __VA_ARGS__"},
		// Hashes.
		{"A #", "A{f.c 0 1} #"},
		{"A #x", "A{f.c 0 1} #x"},
		{"A # #", "A{f.c 0 1} # #"},
		{"A %:", "A{f.c 0 1} %:"},
		{"A (a) #b", "A{f.c 0 1} (a) #b"},
		{"F() #", "5{f.c 4 5}"},
		{"F() #a", "5{f.c 4 5}"},
		{"F() %:a", "5{f.c 4 6}"},
		{"F(a) #", "5{f.c 5 6}"},
		{"F(a) #b", "5{f.c 5 6}"},
		{"F(a) %: b", "5{f.c 5 7}"},
		{"F(a) ??=b", "5{f.c 5 8}"},
		{"F(a) #F", "5{f.c 5 6}"},
		{"F(a) a #", "5{f.c 7 8}"},
		{"F(a) #a #", "5{f.c 8 9}"},
		{"F(a) # #a", "5{f.c 5 6}"},
		{"F(a) #1", "5{f.c 5 6}"},
		{"F(a) #\"a\"", "5{f.c 5 6}"},
		{"F(a) #'a'", "5{f.c 5 6}"},
		{"F(a) # ## a", "5{f.c 5 6}"},
		{"F(a) #A", "5{f.c 5 6}"},
		{"F(a) #a", "F(a){f.c 0 1} #a"},
		{"F(a) # /**/ a#a", "F(a){f.c 0 1} # a#a"},
		{"F(a,b) %:b%:a", "F(a b){f.c 0 1} %:b%:a"},
		{"F(a) \"#b\"", "F(a){f.c 0 1} \"#b\""},
		{"F(a) #a##a", "F(a){f.c 0 1} #a##a"},
		{"F(a) a###a", "F(a){f.c 0 1} a###a"},
		{"F(...) #__VA_ARGS__", "F(__VA_ARGS__)v{f.c 0 1} #__VA_ARGS__"},
		{"F(a,...) %:__VA_ARGS__ #a", "F(a __VA_ARGS__)v{f.c 0 1} %:__VA_ARGS__ #a"},
		{"F(...) #a", "5{f.c 7 8}"},
		// __VA_ARGS__ where there is none.
		{"A __VA_ARGS__", "5{f.c 2 13}"},
		{"A x __VA_ARGS__ y", "5{f.c 4 15}"},
		{"A (...) __VA_ARGS__", "5{f.c 8 19}"},
		{"A \"__VA_ARGS__\"", "A{f.c 0 1} \"__VA_ARGS__\""},
		{"A __VA_ARGS_", "A{f.c 0 1} __VA_ARGS_"},
		{"F() __VA_ARGS__", "5{f.c 4 15}"},
		{"F(a) a __VA_ARGS__", "5{f.c 7 18}"},
		{"F(...) F __VA_ARGS__ __VA_ARGS__", "F(__VA_ARGS__)v{f.c 0 1} F __VA_ARGS__ __VA_ARGS__"},
		// The first token that may not stand there, and it alone.
		{"F(a) #b ## __VA_ARGS__ ##", "5{f.c 5 6}"},
		{"F(a) a __VA_ARGS__ #b ##", "5{f.c 7 18}"},
		{"F(a) #a ## # a # b __VA_ARGS__", "5{f.c 15 16}"},
		{"F(a) # __VA_ARGS__", "5{f.c 5 6}"},
		{"F(a) ## #b", "5{f.c 5 7}"},
		{"F(a) __VA_ARGS__ ##", "5{f.c 5 16}"},
		{"A # __VA_ARGS__ ##", "5{f.c 4 15}"},
	} {
		if got := told(macro.Parse(line(t, c.text))); got != c.want {
			t.Errorf("P9.1: Parse of %q:\n got %s\nwant %s", c.text, got, c.want)
		}
	}
}

// TestParseSpaces holds the Spaces of a Body: the first one's is false, and the others are as they stand.
func TestParseSpaces(t *testing.T) {
	for _, c := range []struct{ text, want string }{
		{"A x", "-"}, {"A   x", "-"}, {"A+x", "--"}, {"A + x", "-s"}, {"A/**/x/**/y", "-s"}, {"A (x) y", "---s"},
		{"F() x", "-"}, {"F()x", "-"}, {"F( a ) a a", "-s"}, {"F(a)  # a", "-s"}, {"F(...)+ +", "-s"}, {"F(a,...)a", "-"}, {"A\\\nx", ""},
	} {
		m, _ := macro.Parse(line(t, c.text))
		got := ""
		for _, x := range m.Body {
			got += map[bool]string{false: "-", true: "s"}[x.Space]
		}
		if got != c.want {
			t.Errorf("P9.1: Spaces of the Body of %q: got %q, want %q", c.text, got, c.want)
		}
	}
}

// TestBodyAsItStands: but for the first one's Space all that the tokens of a Body are stays.
func TestBodyAsItStands(t *testing.T) {
	body := []api.Token{
		{Kind: api.String, Text: "\"s\"", Space: true, Span: api.Span{File: "g", From: -1, To: -5}, Made: true, Sites: []api.Site{{Macro: "#"}, {Made: true}}},
		{Kind: api.Ident, Text: "x", Space: true, Made: true, Sites: []api.Site{{}}},
		{},
		{Kind: -7, Text: "p q", Space: true, Span: api.Span{File: "h"}},
	}
	name := api.Token{Kind: api.Ident, Text: "A", Space: true, Made: true, Span: api.Span{File: "k", From: 9, To: 3}, Sites: []api.Site{{Macro: "B"}}}
	open, closing := api.Token{Kind: api.Punct, Text: "("}, api.Token{Kind: api.Punct, Text: ")", Space: true, Made: true}
	for _, head := range [][]api.Token{{name}, {name, open, closing}} {
		m, diags := macro.Parse(append(head, body...))
		want := slices.Clone(body)
		want[0].Space = false
		if m.Name != "A" || m.Span != name.Span || m.Func != (len(head) > 1) || m.Variadic || len(m.Params) > 0 || !sameTokens(m.Body, want) || len(diags) > 0 {
			t.Errorf("P9.1: behind %d tokens: got %+v, %v", len(head), m, diags)
		}
	}
}

// TestReserved holds the names that may be no macro's.
func TestReserved(t *testing.T) {
	for _, name := range []string{"", "x", "define", "defined", "defined ", "__FILE__", "__LINE__", "__VA_ARGS__", "__va_args__", "__DATE__", "\"defined\""} {
		want := slices.Contains([]string{"defined", "__FILE__", "__LINE__", "__VA_ARGS__"}, name)
		if got := macro.Reserved(name); got != want {
			t.Errorf("P9.1: Reserved(%q): got %v", name, got)
		}
	}
}

// TestLongRows: parameters, and what asks for them, as many as a file may have, and more.
func TestLongRows(t *testing.T) {
	const many = 100000
	var names, body []string
	for n := range many {
		names = append(names, fmt.Sprint("p", n))
		body = append(body, fmt.Sprint("#p", many-1-n))
	}
	head := "F(" + strings.Join(names, ",")
	m, diags := macro.Parse(line(t, head+") "+strings.Join(body, " ")))
	if len(diags) > 0 || !m.Func || m.Variadic || !slices.Equal(m.Params, names) || len(m.Body) != 2*many {
		t.Fatalf("P9.1: got %d parameters, and a Body of %d, %v", len(m.Params), len(m.Body), diags)
	}
	if got := macro.Param(m, names[many-1]); got != many-1 {
		t.Errorf("P9.2: the last parameter is at %d", got)
	}
	m, diags = macro.Parse(line(t, head+",...) "+strings.Join(body, " ")))
	if len(diags) > 0 || !m.Variadic || !slices.Equal(m.Params, append(names, "__VA_ARGS__")) {
		t.Fatalf("P9.1: got %d parameters, %v", len(m.Params), diags)
	}
	for _, text := range []string{head, head + ",", head + ",p0)", head + ",p" + fmt.Sprint(many-1) + ")"} {
		if got := told(macro.Parse(line(t, text))); got != "5{f.c 0 1}" {
			t.Errorf("P9.1: of a long row of parameters that may not be: got %.200s", got)
		}
	}
}

// sameTokens is whether two lists are alike, all fields of their tokens.
func sameTokens(a, b []api.Token) bool {
	return slices.EqualFunc(a, b, func(x, y api.Token) bool {
		return x.Kind == y.Kind && x.Text == y.Text && x.Space == y.Space && x.Span == y.Span && x.Made == y.Made && slices.Equal(x.Sites, y.Sites)
	})
}

// sameMacros is whether two are alike, all fields of them; nil and an empty list are.
func sameMacros(a, b macro.Macro) bool {
	return a.Name == b.Name && a.Func == b.Func && a.Variadic == b.Variadic && a.Span == b.Span && slices.Equal(a.Params, b.Params) && sameTokens(a.Body, b.Body)
}

// TestKindsCount: a text is a name of an Ident alone, and a sign of a Punct alone.
func TestKindsCount(t *testing.T) {
	ident := func(text string) api.Token { return api.Token{Kind: api.Ident, Text: text} }
	sign := func(text string) api.Token { return api.Token{Kind: api.Punct, Text: text} }
	a, f := ident("a"), ident("F")
	for _, kind := range []int{math.MinInt, -1, 0, api.Number, api.Char, api.String, api.Other, api.Pragma, 8, 1<<32 + api.Ident, 1<<32 + api.Punct, math.MaxInt} {
		odd := func(text string) api.Token {
			return api.Token{Kind: kind, Text: text, Span: api.Span{File: "odd", From: 3, To: 4}}
		}
		for _, c := range []struct {
			row  []api.Token
			want string
		}{
			{[]api.Token{odd("A")}, "4{odd 3 4}"},
			{[]api.Token{odd("defined")}, "4{odd 3 4}"},
			{[]api.Token{f, odd("("), a, sign(")")}, "F{ 0 0} (a)"},
			{[]api.Token{f, sign("("), odd("a"), sign(")")}, "5{ 0 0}"},
			{[]api.Token{f, sign("("), odd("...")}, "5{ 0 0}"},
			{[]api.Token{f, sign("("), a, odd(",")}, "5{ 0 0}"},
			{[]api.Token{f, sign("("), odd(")"), a}, "5{ 0 0}"},
			{[]api.Token{f, sign("("), sign(")"), odd("__VA_ARGS__")}, "F(){ 0 0} __VA_ARGS__"},
			{[]api.Token{f, odd("##")}, "F{ 0 0} ##"},
			{[]api.Token{f, odd("%:%:")}, "F{ 0 0} %:%:"},
			{[]api.Token{f, sign("("), sign(")"), odd("#")}, "F(){ 0 0} #"},
			{[]api.Token{f, sign("("), sign(")"), odd("%:")}, "F(){ 0 0} %:"},
			{[]api.Token{f, sign("("), a, sign(")"), sign("#"), odd("a")}, "5{ 0 0}"},
		} {
			if got := told(macro.Parse(c.row)); got != c.want {
				t.Errorf("P9.1: Parse of %q, one of Kind %d:\n got %s\nwant %s", lex.Text(c.row), kind, got, c.want)
			}
		}
	}
	for _, text := range []string{"(", ")", ",", "...", "#", "##", "%:", "%:%:", "", " "} {
		name := ident(text)
		for _, c := range []struct {
			row  []api.Token
			want macro.Macro
		}{
			{[]api.Token{name}, macro.Macro{Name: text}},
			{[]api.Token{f, name}, macro.Macro{Name: "F", Body: []api.Token{name}}},
			{[]api.Token{f, sign("("), name, sign(")"), sign("#"), name}, macro.Macro{Name: "F", Func: true, Params: []string{text}, Body: []api.Token{sign("#"), name}}},
		} {
			if m, diags := macro.Parse(c.row); len(diags) > 0 || !sameMacros(m, c.want) {
				t.Errorf("P9.1: of an Ident %q: got %+v, %v, want %+v", text, m, diags, c.want)
			}
		}
	}
	for _, text := range []string{"a", "__VA_ARGS__", "defined"} {
		odd := sign(text)
		if got := told(macro.Parse([]api.Token{odd})); got != "4{ 0 0}" {
			t.Errorf("P9.1: of a Punct %q: got %s", text, got)
		}
		if got := told(macro.Parse([]api.Token{f, sign("("), odd, sign(")")})); got != "5{ 0 0}" {
			t.Errorf("P9.1: of a parameter that is a Punct %q: got %s", text, got)
		}
		if got := told(macro.Parse([]api.Token{f, odd})); got != "F{ 0 0} "+text {
			t.Errorf("P9.1: of a Body that is a Punct %q: got %s", text, got)
		}
	}
}
