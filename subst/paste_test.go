package subst_test

import (
	"fmt"
	"reflect"
	"testing"

	"oxbow/api"
	"oxbow/lex"
	"oxbow/subst"
)

func TestPaste(t *testing.T) {
	for _, c := range []struct {
		a, b string
		kind int // 0: none
	}{
		{"a", "b", api.Ident},
		{"a", "1", api.Ident},
		{"_", "_", api.Ident},
		{"L", "u8", api.Ident},
		{"1", "2", api.Number},
		{"1", "a", api.Number},
		{"1", ".", api.Number},
		{".", "1", api.Number},
		{"1e", "+", api.Number},
		{"0x1p", "-5", api.Number},
		{"1", "e+", api.Number},
		{"+", "+", api.Punct},
		{"-", ">", api.Punct},
		{"<", "<=", api.Punct},
		{"<<", "=", api.Punct},
		{"#", "#", api.Punct},
		{"%:", "%:", api.Punct},
		{"%", ":%:", api.Punct},
		{"..", ".", api.Punct},
		{"<", ":", api.Punct},
		{"L", "'a'", api.Char},
		{"L", "\"a\"", api.String},
		{"u", "8\"\"", api.String},
		{"u8", "\"a b\"", api.String},
		{"\"", "\"", api.String},
		{"'", "x'", api.Char},
		{"\"/*", "*/\"", api.String},
		{"", "a", api.Ident},
		{"a", "", api.Ident},
		{"\"a\"", "", api.String},
		{"", "@", api.Other},
		{"\\", "", api.Other},
		// None, or more than one.
		{"", "", 0},
		{"a", " ", 0},
		{" ", "a", 0},
		{"a b", "c", 0},
		{"a", "+", 0},
		{"+", "a", 0},
		{"+", "-", 0},
		{"-", "1", 0},
		{".", ".", 0},
		{".", "a", 0},
		{"1", "+", 0},
		{"1e+", "+", 0},
		{"x", "'a'", 0},
		{"u8", "'a'", 0},
		{"'a'", "b", 0},
		{"\"a\"", "\"b\"", 0},
		{"\"a", "b", 0},
		{"\"a\\", "\"", 0},
		{"\"", "\n\"", 0},
		{"", "\"", 0},
		{"/", "/", 0},
		{"/", "*", 0},
		{"/*", "*/", 0},
		{"a", "\n", 0},
		{"a\\", "\nb", 0}, // 4 is not asked
		{"?", "?=", 0},
		{"@", "@", 0},
		{"\\", "n", 0},
		{"@", "a", 0},
		{"#", "##", 0},
		{"(", ")", 0},
	} {
		got, ok := subst.Paste(api.Token{Text: c.a}, api.Token{Text: c.b})
		want := api.Token{Kind: c.kind, Text: c.a + c.b, Made: true}
		if c.kind == 0 {
			want = api.Token{}
		}
		if !sameToken(got, want) || ok != (c.kind != 0) {
			t.Errorf("P11.1: Paste of %q and %q: got %+v, %v, want %+v", c.a, c.b, got, ok, want)
		}
	}
}

// TestPasteFields: what is left and right gives what.
func TestPasteFields(t *testing.T) {
	a := api.Token{Text: "a", Space: true, Span: api.Span{File: "f", From: 3, To: 4}, Sites: []api.Site{{Macro: "m", Name: api.Span{File: "g"}, Made: true}, {}}}
	b := api.Token{Text: "b", Span: api.Span{File: "h", From: 5, To: 6}, Sites: []api.Site{{Macro: "n"}}}
	for kind := range 9 {
		for made := range 4 {
			x, y := a, b
			x.Kind, y.Kind, x.Made, y.Made = kind, 8-kind, made/2 == 1, made%2 == 1
			got, ok := subst.Paste(x, y)
			want := api.Token{Kind: api.Ident, Text: "ab", Space: true, Span: a.Span, Made: true, Sites: a.Sites}
			if !ok || !sameToken(got, want) {
				t.Errorf("P11.1: Paste of %+v and %+v: got %+v, %v", x, y, got, ok)
			}
			got, ok = subst.Paste(y, x)
			want = api.Token{Kind: api.Ident, Text: "ba", Span: b.Span, Made: true, Sites: b.Sites}
			if !ok || !sameToken(got, want) {
				t.Errorf("P11.1: Paste of %+v and %+v: got %+v, %v", y, x, got, ok)
			}
			y.Text = "+"
			if got, ok = subst.Paste(x, y); ok || !reflect.DeepEqual(got, api.Token{}) {
				t.Errorf("P11.1: Paste of %+v and %+v: got %+v, %v", x, y, got, ok)
			}
		}
	}
}

// TestPasteOfOne: what Paste makes is what One tells of both Texts, of all texts of up to 4 signs, cut anywhere.
func TestPasteOfOne(t *testing.T) {
	short := []string{""}
	for from := 0; len(short[from]) < 4; from++ {
		for _, c := range "aL1.+#%\"'\\ \n/" {
			short = append(short, short[from]+string(c))
		}
	}
	for _, text := range short {
		one, is := lex.One(text)
		one.Made = is
		for cut := range len(text) + 1 {
			got, ok := subst.Paste(api.Token{Text: text[:cut]}, api.Token{Text: text[cut:]})
			if ok != is || !sameToken(got, one) {
				t.Fatalf("P11.1: Paste of %q and %q: got %+v, %v, want %+v", text[:cut], text[cut:], got, ok, one)
			}
		}
	}
}

func ExamplePaste() {
	x, ok := subst.Paste(api.Token{Text: "x"}, api.Token{Text: "1"})
	fmt.Println(x.Text, ok)
	_, ok = subst.Paste(api.Token{Text: "+"}, api.Token{Text: "-"})
	fmt.Println(ok)
	// Output:
	// x1 true
	// false
}
