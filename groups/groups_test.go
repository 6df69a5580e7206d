package groups_test

import (
	"fmt"
	"math"
	"reflect"
	"runtime/debug"
	"strings"
	"testing"

	"oxbow/api"
	"oxbow/direct"
	"oxbow/groups"
	"oxbow/lex"
)

// show is items, in short: a line by its kind and place, a condition by its kind and place with its arms in brackets.
func show(l []groups.Item) string {
	var words []string
	for _, item := range l {
		word := fmt.Sprint(item.Kind, "@", item.Line)
		for _, arm := range item.Arms {
			word += fmt.Sprint("[", arm.Line, ": ", show(arm.Items), "]")
		}
		words = append(words, word)
	}
	return strings.Join(words, " ")
}

// showDiags is diagnostics, in short: by their codes and what of the text they are at.
func showDiags(t *testing.T, text string, l []api.Diag) string {
	t.Helper()
	var words []string
	for _, d := range l {
		if d.Span.File != "dir/f.c" {
			t.Errorf("P8.1: %q: a diagnostic is in %q", text, d.Span.File)
		}
		words = append(words, fmt.Sprintf("%d@%d-%d", d.Code, d.Span.From, d.Span.To))
	}
	return strings.Join(words, " ")
}

// is holds what is told of a text: its items, Flat, Depth and diagnostics.
func is(t *testing.T, text, items, flat string, depth int, diags string) {
	t.Helper()
	lines, _ := lex.Lines("dir/f.c", text)
	l, told := groups.Build(lines)
	if got := show(l); got != items {
		t.Errorf("P8.1: %q:\n got %s\nwant %s", text, got, items)
	}
	if got := showDiags(t, text, told); got != diags {
		t.Errorf("P8.1: %q: diagnostics: got %s, want %s", text, got, diags)
	}
	if got := fmt.Sprint(groups.Flat(l)); got != "["+flat+"]" {
		t.Errorf("P8.2: %q: Flat: got %s, want %s", text, got, flat)
	}
	if got := groups.Depth(l); got != depth {
		t.Errorf("P8.2: %q: Depth: got %d, want %d", text, got, depth)
	}
}

func TestConditions(t *testing.T) {
	is(t, "#if\na\n#else\nb\n#endif\n", "2@0[0: 0@1][2: 0@3]", "0 1 2 3", 1, "")
	is(t, "#if 1\n#endif\n", "2@0[0: ]", "0", 1, "")
	is(t, "#if 1\n#endif", "2@0[0: ]", "0", 1, "")
	is(t, "a\n#ifdef A\nb\n#endif\nc", "0@0 2@1[1: 0@2] 0@4", "0 1 2 4", 1, "")
	is(t, "#ifndef A\n#elif 1\na\n#elif 2\n#else\nb\n#endif", "2@0[0: ][1: 0@2][3: ][4: 0@5]", "0 1 2 3 4 5", 1, "")
	is(t, "#if\n#endif\n#if\n#endif\n", "2@0[0: ] 2@2[2: ]", "0 2", 1, "")
	is(t, "#if\n#if\n#else\n#endif\n#else\n#if\na\n#endif\nb\n#endif\nc\n", "2@0[0: 2@1[1: ][2: ]][4: 2@5[5: 0@6] 0@8] 0@10", "0 1 2 4 5 6 8 10", 2, "")
	is(t, "#if\n#if\n#if\n#endif\n#if\n#if\na\n#endif\n#endif\n#endif\n#endif\n", "2@0[0: 2@1[1: 2@2[2: ] 2@4[4: 2@5[5: 0@6]]]]", "0 1 2 4 5 6", 4, "")
	is(t, "# /* */ if\n%:\\\nelse\n??= en??/\ndif\n", "2@0[0: ][1: ]", "0 1", 1, "")
}

func TestLines(t *testing.T) {
	is(t, "", "", "", 0, "")
	is(t, "\n", "", "", 0, "")
	is(t, "\n \n/* a\n */ // b\n\\\n", "", "", 0, "")
	is(t, "a\n\n#\n/**/\nb\n", "0@0 1@2 0@4", "0 2 4", 0, "")
	is(t, "#include <a>\n#define A\n#undef A\n#line 1\n#error e\n#pragma p\n#x\n# 1\n#\n##\nif", "8@0 9@1 10@2 11@3 12@4 13@5 14@6 14@7 1@8 0@9 0@10", "0 1 2 3 4 5 6 7 8 9 10", 0, "")
	is(t, "#if\n\n#define else\n#\n#\"else\"\nelse\n#elsex\n \n#endif", "2@0[0: 9@2 1@3 14@4 0@5 14@6]", "0 2 3 4 5 6", 1, "")
	is(t, "x #if\n#endif1\n\"\n/*", "0@0 14@1 0@2", "0 1 2", 0, "")
	is(t, "#if\na /* #endif\n#endif", "2@0[0: 0@1]", "0 1", 1, "13@1-3")
}

func TestOutOfPlace(t *testing.T) {
	is(t, "#else\n", "", "", 0, "12@1-5")
	is(t, "#elif 1\n", "", "", 0, "12@1-5")
	is(t, " # endif x\n", "", "", 0, "12@3-8")
	is(t, "a\n#else\nb\n#endif\n#elif\nc\n", "0@0 0@2 0@5", "0 2 5", 0, "12@3-7 12@11-16 12@18-22")
	is(t, "#if\n#endif\n#endif\n#else\n#if\n#endif\n", "2@0[0: ] 2@4[4: ]", "0 4", 1, "12@12-17 12@19-23")
	is(t, "#if\n#else\na\n#else\nb\n#elif\nc\n#endif\nd\n", "2@0[0: ][1: 0@2 0@4 0@6] 0@8", "0 1 2 4 6 8", 1, "12@13-17 12@21-25")
	is(t, "#if\n#else\n#if\n#elif\n#else\n#endif\n#elif\n#endif\n#else", "2@0[0: ][1: 2@2[2: ][3: ][4: ]]", "0 1 2 3 4", 2, "12@34-38 12@47-51")
	is(t, "#if\n#else\n#endif\n#if\n#elif\n#else\n#endif\n", "2@0[0: ][1: ] 2@3[3: ][4: ][5: ]", "0 1 3 4 5", 1, "")
	is(t, "#if\n#if\n#else\n#endif\n#else\n#else\na\n#endif\n", "2@0[0: 2@1[1: ][2: ]][4: 0@6]", "0 1 2 4 6", 2, "12@28-32")
}

func TestOpen(t *testing.T) {
	is(t, "#if", "2@0[0: ]", "0", 1, "13@1-3")
	is(t, "a\n# ifdef A\nb\n\n", "0@0 2@1[1: 0@2]", "0 1 2", 1, "13@4-9")
	is(t, "#if\n#ifdef\na\n", "2@0[0: 2@1[1: 0@2]]", "0 1 2", 2, "13@1-3 13@5-10")
	is(t, "#if\n#ifndef\n#endif\n", "2@0[0: 2@1[1: ]]", "0 1", 2, "13@1-3")
	is(t, "#if\n#if\n#else\na\n#endif\n#elif\n#ifdef\n#elif\nb", "2@0[0: 2@1[1: ][2: 0@3]][5: 2@6[6: ][7: 0@8]]", "0 1 2 3 5 6 7 8", 2, "13@1-3 13@30-35")
	is(t, "#if\n#endif\n#if\n#endif\n#if\n", "2@0[0: ] 2@2[2: ] 2@4[4: ]", "0 2 4", 1, "13@23-25")
	is(t, "#endif\n#if\n#else\n#if\n#else\n#else\n#if\n#endif\n#elif\n", "2@1[1: ][2: 2@3[3: ][4: 2@6[6: ]]]", "1 2 3 4 6", 3, "12@1-6 13@8-10 13@18-20 12@28-32 12@45-49")
	is(t, "# \\\nif /*\n*/ 1\n", "2@0[0: ]", "0", 1, "13@4-6")
}

func TestDiagnosticsByLines(t *testing.T) {
	_, got := groups.Build(raws([]int{direct.Endif, direct.If, direct.Else, direct.Else, direct.Text, direct.Ifdef, direct.Elif}))
	want := []api.Diag{{Code: api.DElse, Span: span(0, 1)}, {Code: api.DOpen, Span: span(1, 1)}, {Code: api.DElse, Span: span(3, 1)}, {Code: api.DOpen, Span: span(5, 1)}}
	if !reflect.DeepEqual(got, want) {
		t.Errorf("P8.1: got %v, want %v", got, want)
	}
}

// A line's Toks alone are looked at, and of those the first two.
func TestAnyLines(t *testing.T) {
	hash, other := api.Token{Kind: api.Punct, Text: "%:"}, api.Token{Kind: api.Other, Text: "#"}
	word := func(text string) api.Token { return api.Token{Kind: api.Ident, Text: text} }
	l := []lex.Line{
		{Toks: []api.Token{hash, word("if")}, From: 9, To: -9, Open: true},
		{Toks: []api.Token{other, word("endif")}},
		{Toks: []api.Token{hash, {Kind: api.String, Text: "endif"}}},
		{Toks: []api.Token{{}}},
		{Toks: []api.Token{}, From: 1, To: 5, Open: true},
		{Toks: []api.Token{hash, {}}},
		{Toks: []api.Token{hash, word("else"), hash, word("endif")}, Open: true},
		{Toks: []api.Token{hash, hash, word("endif")}},
	}
	items, diags := groups.Build(l)
	if got, want := show(items), "2@0[0: 0@1 14@2 0@3 14@5][6: 14@7]"; got != want {
		t.Errorf("P8.1: got %s, want %s", got, want)
	}
	if want := []api.Diag{{Code: api.DOpen}}; !reflect.DeepEqual(diags, want) {
		t.Errorf("P8.1: got %v, want %v", diags, want)
	}
}

func TestNothing(t *testing.T) {
	for _, l := range [][]lex.Line{nil, {}, make([]lex.Line, 3)} {
		if items, diags := groups.Build(l); len(items) != 0 || len(diags) != 0 {
			t.Errorf("P8.1: %v: got %v, %v", l, items, diags)
		}
	}
	for _, l := range [][]groups.Item{nil, {}} {
		if flat, depth := groups.Flat(l), groups.Depth(l); len(flat) != 0 || depth != 0 {
			t.Errorf("P8.2: %v: got %v, %d", l, flat, depth)
		}
	}
}

func TestRawItems(t *testing.T) {
	line := []groups.Item{{Line: 7}}
	for _, c := range []struct {
		l     []groups.Item
		flat  []int
		depth int
	}{
		{[]groups.Item{{}}, []int{0}, 0},
		{[]groups.Item{{Kind: direct.If, Line: 4}}, []int{4}, 0},
		{[]groups.Item{{Kind: direct.If, Line: 4, Arms: []groups.Arm{}}}, []int{4}, 0},
		{[]groups.Item{{Kind: direct.Text, Line: 4, Arms: []groups.Arm{{}}}}, []int{0}, 1},
		{[]groups.Item{{Kind: direct.Endif, Line: 4, Arms: []groups.Arm{{Line: 9}, {Line: 3}}}}, []int{9, 3}, 1},
		{[]groups.Item{{Line: 3}, {Kind: -1, Line: -5}, {Line: 3}, {Line: math.MaxInt}, {Line: math.MinInt}}, []int{3, -5, 3, math.MaxInt, math.MinInt}, 0},
		{[]groups.Item{{Arms: []groups.Arm{{Line: 1, Items: line}, {Line: 2, Items: line}}}, line[0]}, []int{1, 7, 2, 7, 7}, 1},
		{[]groups.Item{{Arms: []groups.Arm{{Line: 5}, {Line: 6, Items: []groups.Item{{Line: 1}, {Arms: []groups.Arm{{Line: 2}, {Line: 8, Items: line}}}, {Line: 0}}}, {Line: 4}}}, {Arms: []groups.Arm{{Line: 3}}}}, []int{5, 6, 1, 2, 8, 7, 0, 4, 3}, 2},
	} {
		if got := groups.Flat(c.l); !reflect.DeepEqual(got, c.flat) {
			t.Errorf("P8.2: Flat of %+v: got %v, want %v", c.l, got, c.flat)
		}
		if got := groups.Depth(c.l); got != c.depth {
			t.Errorf("P8.2: Depth of %+v: got %d, want %d", c.l, got, c.depth)
		}
	}
}

// shallow lets calls stand in one another no deeper than some thousand, for a while: a deeper one ends the test.
func shallow(t *testing.T) {
	old := debug.SetMaxStack(1 << 18)
	t.Cleanup(func() { debug.SetMaxStack(old) })
}

const many = 100000

// isDeep holds conditions in one another, of which each but the innermost has the next in its last arm.
func isDeep(t *testing.T, l []groups.Item, arms int) {
	t.Helper()
	flat := groups.Flat(l)
	if len(flat) != many*arms {
		t.Fatalf("P8.2: Flat: %d lines, want %d", len(flat), many*arms)
	}
	for i, place := range flat {
		if place != i {
			t.Fatalf("P8.3: place %d stands at %d", place, i)
		}
	}
	if got := groups.Depth(l); got != many {
		t.Errorf("P8.2: Depth: got %d, want %d", got, many)
	}
	for at := 0; len(l) > 0; at += arms {
		if len(l) != 1 || l[0].Kind != direct.If || l[0].Line != at || len(l[0].Arms) != arms || l[0].Arms[arms-1].Line != at+arms-1 {
			t.Fatalf("P8.1: line %d: got %d Items, the first one %d@%d with %d Arms", at, len(l), l[0].Kind, l[0].Line, len(l[0].Arms))
		}
		l = l[0].Arms[arms-1].Items
	}
}

func TestDeepConditions(t *testing.T) {
	shallow(t)
	for _, begin := range []string{"#if\n", "#ifdef\n#else\n", "#ifndef\n#elif\n#else\n"} {
		arms := strings.Count(begin, "\n")
		lines, _ := lex.Lines("f.c", strings.Repeat(begin, many)+strings.Repeat("#endif\n", many))
		items, diags := groups.Build(lines)
		isDeep(t, items, arms)
		if len(diags) != 0 {
			t.Errorf("P8.1: %d diagnostics, the first one %v", len(diags), diags[0])
		}
		items, diags = groups.Build(lines[:many*arms])
		isDeep(t, items, arms)
		if len(diags) != many {
			t.Fatalf("P8.1: got %d diagnostics, want %d", len(diags), many)
		}
		for i, d := range diags {
			if want := (api.Diag{Code: api.DOpen, Span: lines[i*arms].Toks[1].Span}); d != want {
				t.Fatalf("P8.1: got %v, want %v", d, want)
			}
		}
	}
}

func TestManyArms(t *testing.T) {
	shallow(t)
	lines, _ := lex.Lines("f.c", "#if\n"+strings.Repeat("#elif\na\n#if\n#else\n#else\n#endif\n", many)+"#endif\n"+strings.Repeat("#if\n#endif\n", many))
	items, diags := groups.Build(lines)
	if len(items) != many+1 || len(items[0].Arms) != many+1 || len(diags) != many {
		t.Fatalf("P8.1: %d Items, the first one with %d Arms; %d diagnostics", len(items), len(items[0].Arms), len(diags))
	}
	if got := len(groups.Flat(items)); got != 1+4*many+many {
		t.Errorf("P8.2: Flat: %d lines", got)
	}
	if got := groups.Depth(items); got != 2 {
		t.Errorf("P8.2: Depth: got %d", got)
	}
}
