package subst_test

import (
	"fmt"
	"math/rand"
	"slices"
	"strings"
	"testing"

	"oxbow/api"
	"oxbow/lex"
	"oxbow/macro"
	"oxbow/subst"
)

func TestWants(t *testing.T) {
	for _, c := range []struct{ macro, want string }{
		{"A", ""},
		{"A a##b #c", ""},
		{"F() x", ""},
		{"F(a) x", "-"},
		{"F(a) a", "f"},
		{"F(a) a a", "f"},
		{"F(a) #a", "r"},
		{"F(a) # a", "r"},
		{"F(a) %:a", "r"},
		{"F(a) a##x", "r"},
		{"F(a) x##a", "r"},
		{"F(a) x %:%: a", "r"},
		{"F(a) a %:%: x", "r"},
		{"F(a) x##a##x", "r"},
		{"F(a) x##y a", "f"},
		{"F(a) a x##y", "f"},
		{"F(a) a x##a", "b"},
		{"F(a) a##x a", "b"},
		{"F(a) a #a", "b"},
		{"F(a) #a a", "b"},
		{"F(a) #a##x", "r"},
		{"F(a) x###a", "r"},
		{"F(a) x## #a a", "b"},
		{"F(a,b) a##b", "rr"},
		{"F(a,b) b a#b", "fb"},
		{"F(a,b) #a b", "rf"},
		{"F(a,b,c) b##x c", "-rf"},
		{"F(a,b) (a)[b]", "ff"},
		{"F(...) __VA_ARGS__", "f"},
		{"F(...) #__VA_ARGS__", "r"},
		{"F(a,...) a , __VA_ARGS__##1", "fr"},
		{"F(a) \"a\" 'a' aa A", "-"},
	} {
		raw, full := subst.Wants(parsed(t, c.macro))
		got := ""
		for i := range min(len(raw), len(full)) {
			got += map[[2]bool]string{{true, false}: "r", {false, true}: "f", {true, true}: "b"}[[2]bool{raw[i], full[i]}]
			if !raw[i] && !full[i] {
				got += "-"
			}
		}
		if got != c.want || len(raw) != len(full) {
			t.Errorf("P11.1: Wants of %s: got %v, %v, want %s", c.macro, raw, full, c.want)
		}
	}
}

// body is a Body's answer, with arguments by their texts: full has a ' behind each raw name.
func body(t *testing.T, m macro.Macro, site api.Site, sites []api.Site, texts ...string) answer {
	t.Helper()
	var raw, full [][]api.Token
	for _, text := range texts {
		raw, full = append(raw, line(t, text)), append(full, line(t, text))
		last := len(full) - 1
		for i := range full[last] {
			full[last][i].Text += "'"
		}
	}
	toks, from, diags := subst.Body(m, raw, full, site, sites)
	got := answer{toks, from, diags}
	if want := model(m, raw, full, site, sites); !same(got, want) {
		t.Errorf("P11.2: Body of %+v, %q:\n got %+v\nwant %+v", m, texts, got, want)
	}
	return got
}

func TestBody(t *testing.T) {
	for _, c := range []struct {
		macro string
		args  []string
		want  string
	}{
		{"A", nil, "|"},
		{"A x", nil, "x|-"},
		{"A x + y", nil, "x + y|---"},
		{"F() x  y", nil, "x y|--"},
		// Parameters.
		{"F(a) a", []string{"p q"}, "p' q'|00"},
		{"F(a) x a y", []string{" p"}, "x p' y|-0-"},
		{"F(a) xa(a)a", []string{"p"}, "xa(p')p'|--0-0"},
		{"F(a) x a+a", []string{"p  q"}, "x p' q'+p' q'|-00-00"},
		{"F(a,b) b  a", []string{"p", "q"}, "q' p'|10"},
		{"F(a,b) a b", []string{"b", "a"}, "b' a'|01"},
		{"F(a) x a y", []string{""}, "x y|--"},
		{"F(a) x+a y", []string{""}, "x+ y|---"},
		{"F(a,b) a b", []string{"p"}, "p'|0"},
		{"F(a,b) x b y", nil, "x y|--"},
		{"F(a) a", []string{"p", "q"}, "p'|0"},
		{"F(...) x __VA_ARGS__", []string{"p , q"}, "x p' ,' q'|-000"},
		{"F(a) 'a' \"a\"", []string{"p"}, "'a' \"a\"|--"},
		{"A a##b #a", nil, "ab #a|---"},
		// A hash.
		{"F(a) #a", []string{"p  q"}, "\"p q\"|-"},
		{"F(a) x # a y", []string{" p+ q "}, "x \"p+ q\" y|---"},
		{"F(a) x#a", []string{"'\\n' \"\\0\""}, "x\"'\\\\n' \\\"\\\\0\\\"\"|--"},
		{"F(a) x #a y", []string{""}, "x \"\" y|---"},
		{"F(a) x #a y", nil, "x \"\" y|---"},
		{"F(a) %:a", []string{"p"}, "\"p\"|-"},
		{"F(a) #a a", []string{"p"}, "\"p\" p'|-0"},
		{"F(a,b) #b#a", []string{"p", "q"}, "\"q\"\"p\"|--"},
		{"F(a,...) #__VA_ARGS__", []string{"p", "q ,r"}, "\"q ,r\"|-"},
		{"F(a) #a", []string{"\\"}, "\"\\\"|-"},
		// A paste.
		{"A x##y z", nil, "xy z|--"},
		{"A x ## y", nil, "xy|-"},
		{"A z x %:%: y", nil, "z xy|--"},
		{"A x##y##z", nil, "xyz|-"},
		{"A x##1 ## e", nil, "x1e|-"},
		{"A 1##.##e##+##5", nil, "1.e+5|-"},
		{"A <##<##=", nil, "<<=|-"},
		{"A # ## # x", nil, "## x|--"},
		{"A x+##+y", nil, "x++y|---"},
		{"A +##-", nil, "+-|-- d10@3-5"},
		{"A x y ## -  z", nil, "x y - z|---- d10@6-8"},
		{"A a##+##+##b", nil, "a++b|--- d10@3-5 d10@9-11"},
		{"A /##/ x", nil, "// x|--- d10@3-5"},
		{"A \"##\"", nil, "\"##\"|-"}, // a constant, and no paste
		{"A \"x##y'##'", nil, "\"xy'##'|---"},
		{"A L##\"x\"", nil, "L\"x\"|-"},
		{"A u##8##\"x\"", nil, "u8\"x\"|-"},
		{"A u##8##8##\"x\"", nil, "u88\"x\"|-- d10@9-11"},
		{"A \"x\"##\"y\"", nil, "\"x\"\"y\"|-- d10@5-7"},
		{"F(a,b) a##b", []string{"p", "1"}, "p1|-"},
		{"F(a,b) a##b", []string{"p q", "r s"}, "p qr s|0-1"},
		{"F(a,b) x a ## b y", []string{"p  q", " r s"}, "x p qr s y|-0-1-"},
		{"F(a,b) a##b", []string{"", "r s"}, "r s|11"},
		{"F(a,b) a##b", []string{"r s", ""}, "r s|00"},
		{"F(a,b) a##b", []string{"", ""}, "|"},
		{"F(a,b) x a##b y", []string{"", ""}, "x y|--"},
		{"F(a,b) x a##b", []string{"", "r"}, "xr|-1"},
		{"F(a,b) x a ## b", []string{"", "r"}, "x r|-1"},
		{"F(a,b) x##a y##b z", []string{"", ""}, "x y z|---"},
		{"F(a,b) a##x b##y z", []string{"", ""}, "xy z|---"},
		{"F(a) x a##a y", []string{""}, "x y|--"},
		{"F(a,b) a##b", []string{"+", "-"}, "+-|01 d10@8-10"},
		{"F(a,b) a## b", []string{"p +", "- q"}, "p + - q|0011 d10@8-10"},
		{"F(a,b) a##b##c", []string{"+", "-"}, "+-c|01- d10@8-10 d10@11-13"},
		{"F(a,b) a##b##c", []string{"+", "x"}, "+xc|0- d10@8-10"},
		{"F(a,b) a##b##c", []string{"p", ""}, "pc|-"},
		{"F(a,b) a##b##c", []string{"", "q"}, "qc|-"},
		{"F(a,b) a##b##c", []string{"", ""}, "c|-"},
		{"F(a,b) z a##b##c", []string{"", ""}, "zc|--"},
		{"F(a,b) a##b##a", []string{"p q", "r s"}, "p qr sp q|0--0"},
		{"F(a,b) a##b##a", []string{"p q", "r"}, "p qrp q|0-0"},
		{"F(a) a##a##a##a", []string{"1"}, "1111|-"},
		{"F(a) a ## ## 2", []string{"p"}, "p2|-"},
		{"F(a) a ## ## ## 2", []string{""}, "2|-"},
		{"F(a) x a ## ## y", []string{""}, "x y|--"},
		{"F(a) + ## %:%: a", []string{"-"}, "+ -|-0 d10@10-14"},
		// A paste and a hash.
		{"F(a) L## #a", []string{"p"}, "L\"p\"|-"},
		{"F(a) #a##x", []string{"p"}, "\"p\"x|-- d10@7-9"},
		{"F(a) #a##a", []string{"p"}, "\"p\"p|-0 d10@7-9"},
		{"F(a) a###a", []string{"u8"}, "u8\"u8\"|-"},
		{"F(a) a## #a", []string{""}, "\"\"|-"},
		{"F(a) a #a", []string{"L"}, "L' \"L\"|0-"},
		{"F(a) L###a", []string{"\\"}, "L\"\\\"|-- d10@6-8"},
		// Signs that arguments bring, and those that are pasted, count for nothing.
		{"F(a) a a x", []string{"##"}, "##' ##' x|00-"},
		{"F(a) x##a y", []string{"## z"}, "x## z y|-00- d10@6-8"},
		{"F(a) a##a y", []string{"#"}, "## y|--"},
		{"F(a,b) a##b a", []string{"#", "b"}, "#b #'|010 d10@8-10"},
		{"F(a,b) x##a b", []string{"b", "q"}, "xb q'|-1"},
		{"F(a,bb) b##b", []string{"p", "q"}, "bb|-"},
	} {
		if got := told(body(t, parsed(t, c.macro), api.Site{}, nil, c.args...)); got != c.want {
			t.Errorf("P11.2, P11.3: Body of %s, %q:\n got %s\nwant %s", c.macro, c.args, got, c.want)
		}
	}
}

// TestBodyFields: what each token has.
func TestBodyFields(t *testing.T) {
	m := parsed(t, "F(a,b)  x #a a b##1 y##z +## -")
	for i := range m.Body {
		m.Body[i].Made, m.Body[i].Sites = true, []api.Site{{Macro: "wrong"}}
	}
	span := func(file string, from, to int) api.Span { return api.Span{File: file, From: from, To: to} }
	given := func(text, macro string, made bool) [][]api.Token {
		l := line(t, text)
		for i := range l {
			l[i].Span.File, l[i].Made, l[i].Sites = "g", made, []api.Site{{Macro: macro}, {}}
		}
		return [][]api.Token{l[:2], l[2:]}
	}
	site, sites := api.Site{Macro: "F", Name: span("h", 1, 2), Made: true}, []api.Site{{Macro: "G"}, {Name: span("k", 7, 8)}}
	toks, from, diags := subst.Body(m, given("p+  q-r", "raw", false), given(" s t u v", "full", true), site, sites)
	all := []api.Site{site, sites[0], sites[1]}
	want := []api.Token{
		{Kind: api.Ident, Text: "x", Span: span("f.c", 8, 9), Sites: all},
		{Kind: api.String, Text: `"p+"`, Space: true, Span: span("f.c", 10, 11), Made: true, Sites: all},
		{Kind: api.Ident, Text: "s", Space: true, Span: span("g", 1, 2), Made: true, Sites: []api.Site{{Macro: "full"}, {}}},
		{Kind: api.Ident, Text: "t", Space: true, Span: span("g", 3, 4), Made: true, Sites: []api.Site{{Macro: "full"}, {}}},
		{Kind: api.Ident, Text: "q", Space: true, Span: span("g", 4, 5), Sites: []api.Site{{Macro: "raw"}, {}}},
		{Kind: api.Punct, Text: "-", Span: span("g", 5, 6), Sites: []api.Site{{Macro: "raw"}, {}}},
		{Kind: api.Ident, Text: "r1", Span: span("g", 6, 7), Made: true, Sites: []api.Site{{Macro: "raw"}, {}}},
		{Kind: api.Ident, Text: "yz", Space: true, Span: span("f.c", 20, 21), Made: true, Sites: all},
		{Kind: api.Punct, Text: "+", Space: true, Span: span("f.c", 25, 26), Sites: all},
		{Kind: api.Punct, Text: "-", Space: true, Span: span("f.c", 29, 30), Sites: all},
	}
	if !slices.EqualFunc(toks, want, sameToken) {
		t.Errorf("P11.2:\n got %+v\nwant %+v", toks, want)
	}
	if !slices.Equal(from, []int{-1, -1, 0, 0, 1, 1, -1, -1, -1, -1}) {
		t.Errorf("P11.3: got %v", from)
	}
	if !slices.Equal(diags, []api.Diag{{Code: api.DPaste, Span: span("f.c", 26, 28)}}) {
		t.Errorf("P11.2: got %+v", diags)
	}
}

// TestBodySpaces: whose Space a first token has.
func TestBodySpaces(t *testing.T) {
	for _, c := range []struct{ macro, arg, want string }{
		{"F(a) x a", "p", "x p"},
		{"F(a) x+a", " p", "x+p"},
		{"F(a) x+a", " p q", "x+p q"},
		{"F(a) x a", "p q+r", "x p q+r"},
		{"F(a) x #a", " p", "x \"p\""},
		{"F(a) x# a", "p", "x\"p\""},
		{"F(a) x a##y", "p", "x py"},
		{"F(a) x+a ## y", " p", "x+py"},
		{"F(a) x+## a", " -", "x+ -"},
		{"F(a) x+##a", " -", "x+-"},
		{"F(a) x y ##a", " p", "x yp"},
		{"F(a) x a## y", "", "x y"},
		{"F(a) x a##y", "", "xy"},
		{"F(a) x+a ## y", "", "x+ y"},
	} {
		arg := line(t, c.arg)
		toks, _, _ := subst.Body(parsed(t, c.macro), [][]api.Token{arg}, [][]api.Token{arg}, api.Site{}, nil)
		if got := lex.Text(toks); got != c.want {
			t.Errorf("P11.2: Body of %s, %q: got %q, want %q", c.macro, c.arg, got, c.want)
		}
	}
}

// TestOddMacros: those that no Parse makes.
func TestOddMacros(t *testing.T) {
	of := func(text string, params ...string) macro.Macro {
		return macro.Macro{Func: true, Params: params, Body: line(t, text)}
	}
	plain := of("a #a a##b", "a", "b")
	plain.Func = false
	string1 := of("a", "a")
	string1.Body[0].Kind = api.String
	sign := of("# a x##y", "a")
	sign.Body[0].Kind, sign.Body[3].Kind = api.Other, api.Other
	for _, c := range []struct {
		m     macro.Macro
		want  string
		wants string
	}{
		{plain, "a #a ab|----", "[false false] [false false]"},
		{string1, "a|-", "[false] [false]"},
		{sign, "# p' x##y|-0---", "[false] [true]"},
		{of("## x # ##", "a"), "x #|--", "[false] [false]"},
		{of("##", "a"), "|", "[false] [false]"},
		{of("## ##", "a"), "|", "[false] [false]"},
		{of("## a", "a"), "p|0", "[true] [false]"},
		{of("a ##", "a"), "p|0", "[true] [false]"},
		{of("## a ## ##", "a"), "p|0", "[true] [false]"},
		{of("## a ## x", "a"), "px|-", "[true] [false]"},
		{of("x a ## ## y", "a"), "x py|--", "[true] [false]"},
		{of("#", "a"), "#|-", "[false] [false]"},
		{of("# x a #", "a"), "# x p' #|--0-", "[false] [true]"},
		{of("# # a", "a"), "# \"p\"|--", "[true] [false]"},
		{of("# ##a", "a"), "#p|-0 d10@2-4", "[true] [false]"},
		{of("# ## # a", "a"), "# \"p\"|-- d10@2-4", "[true] [false]"},
		{of("a # b", "a", "b"), "p' \"q\"|0-", "[false true] [true false]"},
		{of("a", "a", "a"), "p'|0", "[false false] [true false]"},
		{of("a #a b", "b", "a", "b", "a"), "q' \"q\" p'|1-0", "[false true false false] [true true false false]"},
		{of("__VA_ARGS__", "a"), "__VA_ARGS__|-", "[false] [false]"},
		{macro.Macro{Func: true, Params: []string{""}, Body: []api.Token{{Kind: api.Ident}, {}}}, "p'|0-", "[false] [true]"},
		{macro.Macro{}, "|", "[] []"},
	} {
		if got := told(body(t, c.m, api.Site{}, nil, "p", "q", "r", "s")); got != c.want {
			t.Errorf("P11.2: Body of %q %q:\n got %s\nwant %s", c.m.Params, lex.Text(c.m.Body), got, c.want)
		}
		raw, full := subst.Wants(c.m)
		if got := fmt.Sprint(raw, full); got != c.wants {
			t.Errorf("P11.1: Wants of %q %q: got %s, want %s", c.m.Params, lex.Text(c.m.Body), got, c.wants)
		}
	}
}

// alphabet is of what random Bodies and arguments are.
func alphabet(t *testing.T) []api.Token {
	l := line(t, "a a b b c x L u8 1 .5 e + - . = # # %: ## ## ## %:%: 'y' \"z\" \\ \" '")
	l = append(l, l[len(l)-2:]...)
	return append(l, api.Token{Kind: api.String, Text: "a"}, api.Token{Kind: api.Other, Text: "##"}, api.Token{Kind: api.Ident, Text: "+"}, api.Token{Kind: api.Ident}, api.Token{Kind: 9, Text: "\"y"})
}

// some is random tokens.
func some(random *rand.Rand, alphabet []api.Token, n int) []api.Token {
	l := make([]api.Token, random.Intn(n))
	for i := range l {
		l[i] = alphabet[random.Intn(len(alphabet))]
		l[i].Space, l[i].Made = random.Intn(2) == 0, random.Intn(2) == 0
		l[i].Span = api.Span{File: "r", From: random.Intn(1000), To: random.Intn(1000)}
		for range random.Intn(3) {
			l[i].Sites = append(l[i].Sites, api.Site{Macro: fmt.Sprint(random.Intn(9))})
		}
	}
	return l
}

func TestRandomBodies(t *testing.T) {
	random := rand.New(rand.NewSource(11))
	letters := alphabet(t)
	params := [][]string{nil, {"a"}, {"a", "b"}, {"b", "a", "c"}, {"a", "b", "a"}, {"", "b"}, {"##", "+", "a"}}
	for range 100000 {
		m := macro.Macro{Func: random.Intn(6) > 0, Params: params[random.Intn(len(params))], Body: some(random, letters, 14)}
		var raw, full [][]api.Token
		for range random.Intn(5) {
			raw = append(raw, some(random, letters, 4))
		}
		for range random.Intn(5) {
			full = append(full, some(random, letters, 4))
		}
		site, sites := api.Site{Macro: m.Name, Made: true}, []api.Site{{Macro: "s"}, {}}[:random.Intn(3)]
		toks, from, diags := subst.Body(m, raw, full, site, sites)
		if got, want := (answer{toks, from, diags}), model(m, raw, full, site, sites); !same(got, want) {
			t.Fatalf("P11.2, P11.3: Body of %+v, %+v, %+v:\n got %+v\nwant %+v", m, raw, full, got, want)
		}
		gotRaw, gotFull := subst.Wants(m)
		if wantRaw, wantFull := modelWants(m); !slices.Equal(gotRaw, wantRaw) || !slices.Equal(gotFull, wantFull) {
			t.Fatalf("P11.1: Wants of %+v: got %v, %v, want %v, %v", m, gotRaw, gotFull, wantRaw, wantFull)
		}
	}
}

// TestAllShortBodies: each row of up to 6 of the signs that count.
func TestAllShortBodies(t *testing.T) {
	signs := line(t, "a b # ## x+")
	raw, full := [][]api.Token{line(t, "p + q"), nil}, [][]api.Token{line(t, "r"), line(t, "s t")}
	for n := range 7 {
		places := make([]int, n)
		for {
			m := macro.Macro{Func: true, Params: []string{"a", "b"}, Body: make([]api.Token, n)}
			for i, place := range places {
				m.Body[i] = signs[place]
				m.Body[i].Span = api.Span{From: 3 * i, To: 3*i + 1}
			}
			toks, from, diags := subst.Body(m, raw, full, api.Site{}, nil)
			if got, want := (answer{toks, from, diags}), model(m, raw, full, api.Site{}, nil); !same(got, want) {
				t.Fatalf("P11.2, P11.3: Body of %s:\n got %+v\nwant %+v", lex.Text(m.Body), got, want)
			}
			at := n - 1
			for ; at >= 0 && places[at] == len(signs)-1; at-- {
				places[at] = 0
			}
			if at < 0 {
				break
			}
			places[at]++
		}
	}
}

// TestLongRows: a Body is gone through once, and what many pastes make is not put together anew at each: else this would not end.
func TestLongRows(t *testing.T) {
	const many = 200000
	row := func(text string, n int) []api.Token {
		l := line(t, text)
		return slices.Repeat(l, n)[1:]
	}
	for _, c := range []struct {
		body []api.Token
		arg  string
		toks int
		last string
		told int
	}{
		{row("## x", many), "", 1, strings.Repeat("x", many), 0},
		{row("## 1", many), "", 1, strings.Repeat("1", many), 0},
		{append(line(t, "1"), slices.Repeat(line(t, "## e ## +"), many)...), "", 1, "1" + strings.Repeat("e+", many), 0},
		{row("## a", many), "1e+", 1, strings.Repeat("1e+", many), 0},
		{row("## a", many), "x y", many + 1, "y", 0},
		{row("## a", many), "x ,", 2 * many, ",", many - 1},
		{row("## a", many), "", 0, "", 0},
		{row("## +", many), "", many/2 + many%2, "++", many/2 - 1},
		{row("##", many), "", 0, "", 0},
		{row("# a ##", many), "p", many, "\"p\"", many - 1},
		{row("# a", many), "p", many, "\"p\"", 0},
		{row("## a x", many), "", many, "x", 0},
	} {
		m := macro.Macro{Func: true, Params: []string{"a"}, Body: c.body}
		arg := [][]api.Token{line(t, c.arg)}
		toks, from, diags := subst.Body(m, arg, arg, api.Site{}, nil)
		last := ""
		if len(toks) > 0 {
			last = toks[len(toks)-1].Text
		}
		if len(toks) != c.toks || len(from) != c.toks || last != c.last || len(diags) != c.told {
			t.Errorf("P11.2: %s ..: got %d tokens, %d places, %d bytes at last, %d diagnostics, want %+v", lex.Text(c.body[:4]), len(toks), len(from), len(last), len(diags), c.toks)
		}
		subst.Wants(m)
	}
	m := macro.Macro{Func: true}
	for n := range many {
		m.Params = append(m.Params, fmt.Sprint("p", n))
		m.Body = append(m.Body, api.Token{Kind: api.Ident, Text: fmt.Sprint("p", n)})
	}
	list := slices.Repeat([][]api.Token{line(t, "x y")}, many)
	if toks, _, _ := subst.Body(m, list, list, api.Site{}, nil); len(toks) != 2*many {
		t.Errorf("P11.2: many parameters: got %d tokens", len(toks))
	}
	raw, full := subst.Wants(m)
	if len(raw) != many || slices.Contains(raw, true) || slices.Contains(full, false) {
		t.Errorf("P11.1: many parameters: got %d", len(raw))
	}
}

func ExampleBody() {
	lines, _ := lex.Lines("f.c", "F(a,b) a##b #a b\nx y\n1\n")
	m, _ := macro.Parse(lines[0].Toks)
	list := [][]api.Token{lines[1].Toks, lines[2].Toks}
	toks, from, diags := subst.Body(m, list, list, api.Site{}, nil)
	fmt.Println(lex.Text(toks), from, len(diags))
	// Output: x y1 "x y" 1 [0 -1 -1 1] 0
}
