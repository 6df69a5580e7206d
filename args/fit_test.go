package args_test

import (
	"fmt"
	"slices"
	"strings"
	"testing"

	"oxbow/api"
	"oxbow/args"
	"oxbow/macro"
)

// parsed is the macro that a text tells.
func parsed(t *testing.T, text string) macro.Macro {
	t.Helper()
	m, diags := macro.Parse(line(t, text))
	if len(diags) > 0 {
		t.Fatalf("%q is no macro: %v", text, diags)
	}
	return m
}

const no = "no" // of arguments that do not fit

func TestFit(t *testing.T) {
	for _, c := range []struct{ macro, use, want string }{
		{"F()", "()", ""},
		{"F()", "( /**/ )", ""},
		{"F()", "(a)", no},
		{"F()", "(())", no},
		{"F()", "(,)", no},
		{"F()", "(,a)", no},
		{"F(a)", "()", "[]"},
		{"F(a)", "(x)", "[x]"},
		{"F(a)", "( x  y )", "[x y]"},
		{"F(a)", "((x,y))", "[(x,y)]"},
		{"F(a)", "(,)", no},
		{"F(a)", "(x,)", no},
		{"F(a)", "(x,y)", no},
		{"F(a,b)", "()", no},
		{"F(a,b)", "(x)", no},
		{"F(a,b)", "(,)", "[][]"},
		{"F(a,b)", "(x,)", "[x][]"},
		{"F(a,b)", "(,y)", "[][y]"},
		{"F(a,b)", "(x,y)", "[x][y]"},
		{"F(a,b)", "(x,(y,z))", "[x][(y,z)]"},
		{"F(a,b)", "(x,y,z)", no},
		{"F(a,b)", "(,,)", no},
		{"F(a,b,c)", "(x, y , z)", "[x][y][z]"},
		{"F(...)", "()", "[]"},
		{"F(...)", "(x)", "[x]"},
		{"F(...)", "(,)", "[,]"},
		{"F(...)", "(x,y)", "[x,y]"},
		{"F(...)", "(x , y,  z)", "[x , y, z]"},
		{"F(...)", "(,,x,)", "[,,x,]"},
		{"F(...)", "((x,y),(z))", "[(x,y),(z)]"},
		{"F(a,...)", "()", "[][]"},
		{"F(a,...)", "(x)", "[x][]"},
		{"F(a,...)", "(x,)", "[x][]"},
		{"F(a,...)", "(,)", "[][]"},
		{"F(a,...)", "(x,y)", "[x][y]"},
		{"F(a,...)", "(x,,)", "[x][,]"},
		{"F(a,...)", "(x,y, z)", "[x][y, z]"},
		{"F(a,...)", "(,,)", "[][,]"},
		{"F(a,b,...)", "()", no},
		{"F(a,b,...)", "(x)", no},
		{"F(a,b,...)", "(x,y)", "[x][y][]"},
		{"F(a,b,...)", "(x,y,)", "[x][y][]"},
		{"F(a,b,...)", "(x,y,z,(w,v),u)", "[x][y][z,(w,v),u]"},
		{"F(a,b,c,...)", "(x,y)", no},
	} {
		list, commas, _, _ := args.Collect(line(t, c.use))
		got, ok := args.Fit(parsed(t, c.macro), list, commas)
		text := no
		if ok {
			text = ""
		}
		for _, l := range got {
			text += "[" + told([][]api.Token{l}) + "]"
		}
		if text != c.want {
			t.Errorf("P10.2: Fit of %s, %s: got %s, want %s", c.macro, c.use, text, c.want)
		}
	}
}

// TestFitCommas: the comma ahead of each is the one that came in there, as it was.
func TestFitCommas(t *testing.T) {
	l := line(t, "(w ,x, y  , z)")
	for i := range l {
		l[i].Made = i%2 == 0
		l[i].Sites = []api.Site{{Macro: "m", Made: true}, {Name: api.Span{File: "g", From: i}}}
	}
	list, commas, _, _ := args.Collect(l)
	for _, c := range []struct {
		macro string
		want  [][]api.Token
	}{
		{"F(...)", [][]api.Token{l[1:8]}},
		{"F(a,...)", [][]api.Token{l[1:2], l[3:8]}},
		{"F(a,b,...)", [][]api.Token{l[1:2], l[3:4], l[5:8]}},
		{"F(a,b,c,...)", [][]api.Token{l[1:2], l[3:4], l[5:6], l[7:8]}},
		{"F(a,b,c,d)", [][]api.Token{l[1:2], l[3:4], l[5:6], l[7:8]}},
		{"F(a,b,c,d,...)", [][]api.Token{l[1:2], l[3:4], l[5:6], l[7:8], nil}},
	} {
		if got, ok := args.Fit(parsed(t, c.macro), list, commas); !ok || !sameLists(got, c.want) {
			t.Errorf("P10.2: Fit of %s:\n got %+v, %v\nwant %+v", c.macro, got, ok, c.want)
		}
	}
}

// raw is so many tokens, each with all its fields, that no other call's are.
func raw(name string, n int) []api.Token {
	var l []api.Token
	for i := range n {
		text := fmt.Sprint(name, i)
		l = append(l, api.Token{Kind: 1 + i, Text: text, Space: i == 1, Span: api.Span{File: text, From: i, To: i + 7}, Made: i == 0, Sites: []api.Site{{Macro: text}}})
	}
	return l
}

// fitted is Fit by its words, one case after the other.
func fitted(params int, variadic bool, list [][]api.Token, commas []api.Token) ([][]api.Token, bool) {
	if params == 0 {
		return nil, len(list) == 1 && len(list[0]) == 0
	}
	if !variadic {
		if len(list) != params {
			return nil, false
		}
		return list, true
	}
	if len(list) < params-1 {
		return nil, false
	}
	out := make([][]api.Token, params)
	for i, l := range list {
		place := min(i, params-1)
		if i > place && i-1 < len(commas) {
			out[place] = append(out[place], commas[i-1])
		}
		out[place] = append(out[place], l...)
	}
	return out, true
}

// TestFitAll: all small ones, also those that no Collect and no Parse make.
func TestFitAll(t *testing.T) {
	for params := range 5 {
		for lists := range 7 {
			for sizes := range 1 << lists {
				var list [][]api.Token
				for i := range lists {
					list = append(list, raw(fmt.Sprint("l", i, "."), sizes>>i&1*(i+1)))
				}
				for commas := range 8 {
					fitsAsItsWords(t, params, list, raw(",", commas))
				}
			}
		}
	}
}

func fitsAsItsWords(t *testing.T, params int, list [][]api.Token, commas []api.Token) {
	t.Helper()
	for _, variadic := range []bool{false, true} {
		want, wantOK := fitted(params, variadic, list, commas)
		for _, isFunc := range []bool{false, true} {
			m := macro.Macro{Func: isFunc, Variadic: variadic, Params: strings.Fields("b b a __VA_ARGS__")[:params], Body: commas}
			if got, ok := args.Fit(m, list, commas); ok != wantOK || !sameLists(got, want) {
				t.Fatalf("P10.2: Fit of %d params, variadic %v, %d lists, %d commas:\n got %+v, %v\nwant %+v, %v", params, variadic, len(list), len(commas), got, ok, want, wantOK)
			}
		}
	}
}

// TestFitNone: nil and an empty list mean the same.
func TestFitNone(t *testing.T) {
	none := []api.Token{}
	for _, variadic := range []bool{false, true} {
		for _, params := range [][]string{nil, {}} {
			m := macro.Macro{Variadic: variadic, Params: params}
			for _, list := range [][][]api.Token{{nil}, {none}} {
				if got, ok := args.Fit(m, list, none); len(got) > 0 || !ok {
					t.Errorf("P10.2: one empty one of no Params: got %+v, %v", got, ok)
				}
			}
			for _, list := range [][][]api.Token{nil, {}, {nil, nil}, {raw("a", 1)}} {
				if got, ok := args.Fit(m, list, nil); len(got) > 0 || ok {
					t.Errorf("P10.2: %d lists of no Params: got %+v, %v", len(list), got, ok)
				}
			}
		}
	}
	one := macro.Macro{Variadic: true, Params: []string{"__VA_ARGS__"}}
	if got, ok := args.Fit(one, nil, nil); len(got) != 1 || len(got[0]) > 0 || !ok {
		t.Errorf("P10.2: no list of a Variadic's only one: got %+v, %v", got, ok)
	}
}

func TestFitMany(t *testing.T) {
	const many = 200000
	m := macro.Macro{Variadic: true, Params: []string{"a", "__VA_ARGS__"}}
	list := slices.Repeat([][]api.Token{raw("l", 1)}, many)
	got, ok := args.Fit(m, list, slices.Repeat(raw(",", 1), many))
	if !ok || len(got) != 2 || len(got[0]) != 1 || len(got[1]) != 2*many-3 {
		t.Errorf("P10.2: many lists: got %d, %v", len(got), ok)
	}
	m.Variadic, m.Params = false, make([]string, many)
	if got, ok := args.Fit(m, list, nil); !ok || !sameLists(got, list) {
		t.Errorf("P10.2: many params: got %d, %v", len(got), ok)
	}
}
