package lex_test

import (
	"slices"
	"strings"
	"testing"
	"unsafe"

	"oxbow/api"
	"oxbow/lex"
)

// constantOf is a quote's kind, as it is told.
var constantOf = map[string]string{`"`: "S", `'`: "C"}

// lines holds what is told of a text's lines against what is wanted: see told.
func lines(t *testing.T, text, want string) {
	t.Helper()
	l, diags := lex.Lines("f.c", text)
	if got := told(l, diags); got != want {
		t.Errorf("P5.1: Lines of %q:\n got %s\nwant %s", text, got, want)
	}
	for _, x := range l {
		for _, one := range x.Toks {
			if one.Span.File != "f.c" || one.Made || one.Sites != nil {
				t.Errorf("P5.1: Lines of %q: got a token %+v", text, one)
			}
		}
	}
	for _, d := range diags {
		if d.Span.File != "f.c" {
			t.Errorf("P5.1: Lines of %q: got a diagnostic %+v", text, d)
		}
	}
}

// texts holds the kinds, Texts and Spaces of the tokens of a text of one line against what is wanted.
func texts(t *testing.T, text, want string) {
	t.Helper()
	l, _ := lex.Lines("f.c", text)
	if len(l) != 1 {
		t.Errorf("P5.1: Lines of %q: got %d lines", text, len(l))
		return
	}
	got := ""
	for i, x := range l[0].Toks {
		if i > 0 {
			got += " "
		}
		if x.Space {
			got += "_"
		}
		got += "?INCSPO"[x.Kind:x.Kind+1] + ":" + x.Text
	}
	if got != want {
		t.Errorf("P5.1: tokens of %q:\n got %s\nwant %s", text, got, want)
	}
}

func TestLinesOfFewBytes(t *testing.T) {
	lines(t, "", "")
	lines(t, "\n", "0-1{}")
	lines(t, "\n\n", "0-1{} 1-2{}")
	lines(t, " ", "0-1{}")
	lines(t, "a", "0-1{I a 0-1}")
	lines(t, "a\n", "0-2{I a 0-1}")
	lines(t, "a\n\n", "0-2{I a 0-1} 2-3{}")
	lines(t, "\na", "0-1{} 1-2{I a 1-2}")
	lines(t, "a\n\nb", "0-2{I a 0-1} 2-3{} 3-4{I b 3-4}")
	lines(t, "a\n ", "0-2{I a 0-1} 2-3{}")
	lines(t, "a\n \n", "0-2{I a 0-1} 2-4{}")
	lines(t, "a\nb", "0-2{I a 0-1} 2-3{I b 2-3}")
	lines(t, "int x;\n", "0-7{I int 0-3, _I x 4-5, P ; 5-6}")
}

// A splice behind a line's byte 10 is the next line's, if there is one.
func TestFromAndToOfLines(t *testing.T) {
	lines(t, "\\\n", "0-2{}")
	lines(t, "\\\n\\\n", "0-4{}")
	lines(t, "??/\n", "0-4{}")
	lines(t, "a\\\n", "0-3{I a 0-1}")
	lines(t, "a\n\\\n", "0-4{I a 0-1}")
	lines(t, "a\n??/\n\\\n", "0-8{I a 0-1}")
	lines(t, "a\n\\\nb", "0-2{I a 0-1} 2-5{I b 4-5}")
	lines(t, "a\n\\\n\n", "0-2{I a 0-1} 2-5{}")
	lines(t, "a\\\n\nb\n\\\n", "0-4{I a 0-1} 4-8{I b 4-5}")
	lines(t, "a\n\\\n??/\nb\n\\\n", "0-2{I a 0-1} 2-12{I b 8-9}")
	lines(t, "a\n\\", "0-2{I a 0-1} 2-3{O \\ 2-3}")
	lines(t, "\\\\\n\nb", "0-4{O \\ 0-1} 4-5{I b 4-5}") // what then stands side by side is no splice
}

func TestWhiteSpace(t *testing.T) {
	for _, white := range []string{" ", "\t", "\v", "\f", "\r"} {
		for n := 1; n < 4; n++ {
			some := strings.Repeat(white, n)
			texts(t, some+"a", "_I:a")
			texts(t, "a"+some+"b", "I:a _I:b")
			texts(t, "a"+some, "I:a")
			texts(t, "a"+some+"\n", "I:a")
			texts(t, some, "")
			texts(t, some+"\n", "")
			texts(t, "+"+some+"+", "P:+ _P:+")
			texts(t, "1"+some+".5", "N:1 _N:.5")
			texts(t, "L"+some+`"x"`, `I:L _S:"x"`)
			texts(t, "a"+some+"b+c", "I:a _I:b P:+ I:c")
		}
	}
	texts(t, "\t\v\f\r a\r\n", "_I:a")
	lines(t, "a \nb", "0-3{I a 0-1} 3-4{I b 3-4}") // none of another line's
	lines(t, "a\n b \n\nc", "0-2{I a 0-1} 2-6{_I b 3-4} 6-7{} 7-8{I c 7-8}")
	lines(t, "a\\\nb", "0-4{I ab 0-4}") // a splice is none
	lines(t, "a\\\n b", "0-5{I a 0-1, _I b 4-5}")
	eachByte(func(c string) {
		l, _ := lex.Lines("f.c", c+"\na")
		if space := len(l) == 2 && len(l[0].Toks) == 0; space != strings.Contains(" \t\v\f\r\n", c) && c != "\n" {
			t.Errorf("P5.1: %q is taken for white space: %v", c, space)
		}
	})
}

func TestRemarks(t *testing.T) {
	lines(t, "//", "0-2{}")
	lines(t, "//\n", "0-3{}")
	lines(t, "// b\nc", "0-5{} 5-6{I c 5-6}")
	lines(t, "a//b\nc", "0-5{I a 0-1} 5-6{I c 5-6}")
	lines(t, "a//b\n//c\nd", "0-5{I a 0-1} 5-9{} 9-10{I d 9-10}")
	lines(t, "a//b\\\nc\nd", "0-8{I a 0-1} 8-9{I d 8-9}")
	lines(t, "a//b??/\nc\nd", "0-10{I a 0-1} 10-11{I d 10-11}")
	lines(t, "a/\\\n/b\nc", "0-7{I a 0-1} 7-8{I c 7-8}")
	lines(t, "a//b\\", "0-5{I a 0-1}")
	lines(t, "a//b\\\\\n\nc", "0-8{I a 0-1} 8-9{I c 8-9}")
	lines(t, "a///*\nb", "0-6{I a 0-1} 6-7{I b 6-7}")
	lines(t, "//*\na*/", "0-4{} 4-7{I a 4-5, P * 5-6, P / 6-7}")
	lines(t, "a//\"'\nb", "0-6{I a 0-1} 6-7{I b 6-7}")
	texts(t, `"//"a`, `S:"//" I:a`)
	texts(t, "a/ /b", "I:a P:/ _P:/ I:b")
	texts(t, "a/", "I:a P:/")
	texts(t, "a/=/b", "I:a P:/= P:/ I:b")
}

func TestComments(t *testing.T) {
	lines(t, "/**/", "0-4{}")
	lines(t, "/**/a", "0-5{_I a 4-5}")
	lines(t, "a/* b */c d", "0-11{I a 0-1, _I c 8-9, _I d 10-11}")
	lines(t, "a /**/ b", "0-8{I a 0-1, _I b 7-8}")
	lines(t, "a/**//**/b", "0-10{I a 0-1, _I b 9-10}")
	lines(t, "a/**/+b", "0-7{I a 0-1, _P + 5-6, I b 6-7}")
	lines(t, "a/*\n*/b\nc", "0-8{I a 0-1, _I b 6-7} 8-9{I c 8-9}")
	lines(t, "a/*\n\n\n*/\nc", "0-9{I a 0-1} 9-10{I c 9-10}")
	lines(t, "/*\n*/", "0-5{}")
	lines(t, "a/***/b", "0-7{I a 0-1, _I b 6-7}")
	lines(t, "a/*/*/b", "0-7{I a 0-1, _I b 6-7}")
	lines(t, "a/*/**/b", "0-8{I a 0-1, _I b 7-8}")
	lines(t, "a/*/ b */c", "0-10{I a 0-1, _I c 9-10}")
	lines(t, "a/****/b", "0-8{I a 0-1, _I b 7-8}")
	lines(t, "a/* * / // \" ' */b", "0-18{I a 0-1, _I b 17-18}")
	lines(t, "a/\\\n*b*\\\n/c", "0-11{I a 0-1, _I c 10-11}")
	lines(t, "a/??/\n*b*??/\n/c", "0-15{I a 0-1, _I c 14-15}")
	lines(t, "a*/b", "0-4{I a 0-1, P * 1-2, P / 2-3, I b 3-4}")
	lines(t, "a/**/*/b", "0-8{I a 0-1, _P * 5-6, P / 6-7, I b 7-8}")
	lines(t, "1/**/2", "0-6{N 1 0-1, _N 2 5-6}")
	texts(t, `"/*"a"*/"`, `S:"/*" I:a S:"*/"`)
	texts(t, `'/*'a'*/'`, `C:'/*' I:a C:'*/'`)
	texts(t, "#/**/define", "P:# _I:define")
}

func TestCommentsThatDoNotEnd(t *testing.T) {
	lines(t, "/*", "0-2!{} D1@0-2")
	lines(t, "/*\n", "0-3!{} D1@0-2")
	lines(t, "/*/", "0-3!{} D1@0-2")
	lines(t, "/*/\n", "0-4!{} D1@0-2")
	lines(t, "/**", "0-3!{} D1@0-2")
	lines(t, "/* *\n/", "0-6!{} D1@0-2")
	lines(t, "/*\\\n/", "0-5!{} D1@0-2")
	lines(t, "a b/*c\nd\n", "0-9!{I a 0-1, _I b 2-3} D1@3-5")
	lines(t, "a\nb /*", "0-2{I a 0-1} 2-6!{I b 2-3} D1@4-6")
	lines(t, "a\n/*b\nc\n\n", "0-2{I a 0-1} 2-9!{} D1@2-4")
	lines(t, "a\n\n/*", "0-2{I a 0-1} 2-3{} 3-5!{} D1@3-5")
	lines(t, "/**//*", "0-6!{} D1@4-6")
	lines(t, "/* /* /*", "0-8!{} D1@0-2") // once
	lines(t, "/\\\n*a", "0-5!{} D1@0-4")  // the Span has the splice
	lines(t, "a/??/\n\\\n*\\\n", "0-11!{I a 0-1} D1@1-9")
	lines(t, "/*\\\n", "0-4!{} D1@0-2")
	lines(t, "/*\n\\\n", "0-5!{} D1@0-2")
	lines(t, "' /* \"", "0-6!{O ' 0-1} D2@0-1 D1@2-4") // in the order of their places
	lines(t, "\"\n'/*", "0-2{O \" 0-1} 2-5!{O ' 2-3} D2@0-1 D2@2-3 D1@3-5")
}

func TestConstants(t *testing.T) {
	for _, ahead := range []string{"L", "u", "U", "u8", ""} {
		quotes := []string{`"`, `'`}
		if ahead == "u8" {
			quotes = quotes[:1]
		}
		for _, quote := range quotes {
			kind := constantOf[quote]
			for _, in := range []string{``, `x`, ` `, ` x  y `, `\\`, `\` + quote, `\\\` + quote, `\\\\`, `a\` + quote + `b`, `\n`, `//`, `/*`, `*/`, "\t\v\f\r\x00\xff", `?`, `\ `} {
				one := ahead + quote + in + quote
				texts(t, one, kind+":"+one)
				texts(t, "("+one+one+" "+one+")", "P:( "+kind+":"+one+" "+kind+":"+one+" _"+kind+":"+one+" P:)")
				texts(t, one+"x", kind+":"+one+" I:x")
				texts(t, "_"+one, "I:_"+ahead+" "+kind+":"+one[len(ahead):])
				texts(t, "1"+one, "N:1"+ahead+" "+kind+":"+one[len(ahead):])
			}
		}
	}
	texts(t, `u8'a'`, `I:u8 C:'a'`)
	texts(t, `u8''`, `I:u8 C:''`)
	texts(t, `U8"a"`, `I:U8 S:"a"`)
	texts(t, `l"a"`, `I:l S:"a"`)
	texts(t, `u9"a"`, `I:u9 S:"a"`)
	texts(t, `u"a"`, `S:u"a"`)
	texts(t, `uL"a"`, `I:uL S:"a"`)
	texts(t, `LL"a"`, `I:LL S:"a"`)
	texts(t, `u8L"a"`, `I:u8L S:"a"`)
	texts(t, `xu8"a"`, `I:xu8 S:"a"`)
	texts(t, `x L"a"`, `I:x _S:L"a"`)
	texts(t, `1L"a"`, `N:1L S:"a"`)
	texts(t, `+L"a"`, `P:+ S:L"a"`)
	texts(t, `"'"'"'`, `S:"'" C:'"'`)
	texts(t, `"a""b"`, `S:"a" S:"b"`)
	texts(t, `"a"L"b"`, `S:"a" S:L"b"`)
	texts(t, "\"??/\"\"", `S:"\""`)
	texts(t, "\"??''", `O:" P:^ O:'`)
	texts(t, "'??'", `O:' P:^`)
	texts(t, "\"a\\\nb\"", `S:"ab"`)
	texts(t, "\"a\\\\\n\"\"", `S:"a\""`) // the splice goes first, then a \ takes the quote
	texts(t, "L\\\n\"a\"", `S:L"a"`)
	texts(t, "u\\\n8\\\n\"a\"", `S:u8"a"`)
	texts(t, "u??/\n8'a'", `I:u8 C:'a'`)
}

func TestQuotesThatDoNotEnd(t *testing.T) {
	for quote, kind := range constantOf {
		q := func(text, want string) {
			t.Helper()
			put := strings.NewReplacer("Q", quote, "K", kind)
			lines(t, put.Replace(text), put.Replace(want))
		}
		q("Q", "0-1{O Q 0-1} D2@0-1")
		q("Q\n", "0-2{O Q 0-1} D2@0-1")
		q("a Qb c", "0-6{I a 0-1, _O Q 2-3, I b 3-4, _I c 5-6} D2@2-3")
		q("Q\nQ", "0-2{O Q 0-1} 2-3{O Q 2-3} D2@0-1 D2@2-3")
		q("Qa\nbQcQ", "0-3{O Q 0-1, I a 1-2} 3-7{I b 3-4, K QcQ 4-7} D2@0-1")
		q("QxQQ", "0-4{K QxQ 0-3, O Q 3-4} D2@3-4")
		q("LQx", "0-3{I L 0-1, O Q 1-2, I x 2-3} D2@1-2")
		q("uQ", "0-2{I u 0-1, O Q 1-2} D2@1-2")
		q("UQ\n", "0-3{I U 0-1, O Q 1-2} D2@1-2")
		q(" u8Q ", "0-5{_I u8 1-3, O Q 3-4} D2@3-4")
		q("L\\\nQ", "0-4{I L 0-1, O Q 3-4} D2@3-4")
		q("Q+ L", "0-4{O Q 0-1, P + 1-2, _I L 3-4} D2@0-1")
		q("Q\\", "0-2{O Q 0-1, O \\ 1-2} D2@0-1")
		q("Q\\\\", "0-3{O Q 0-1, O \\ 1-2, O \\ 2-3} D2@0-1")
		q("Q\\Q", "0-3{O Q 0-1, O \\ 1-2, O Q 2-3} D2@0-1 D2@2-3")
		q("Q\\QLQ", "0-5{K Q\\QLQ 0-5}")
		q("Q\\QL\\Q", "0-6{O Q 0-1, O \\ 1-2, O Q 2-3, I L 3-4, O \\ 4-5, O Q 5-6} D2@0-1 D2@2-3 D2@5-6")
		q("Q\\Q\nQQ", "0-4{O Q 0-1, O \\ 1-2, O Q 2-3} 4-6{K QQ 4-6} D2@0-1 D2@2-3")
		q("Qa\\\nQ", "0-5{K QaQ 0-5}")
		q("Q\\\\\n\nQ", "0-5{O Q 0-1, O \\ 1-2} 5-6{O Q 5-6} D2@0-1 D2@5-6") // a \ does not take the line's end along
		q("Q/*\nQ*/Q", "0-8{O Q 0-1, _O Q 7-8} D2@0-1 D2@7-8")               // a comment behind it
		q("Q/*\n*/QQ", "0-8{O Q 0-1, _K QQ 6-8} D2@0-1")
		q("Q//\nQ", "0-4{O Q 0-1} 4-5{O Q 4-5} D2@0-1 D2@4-5")
	}
	lines(t, `"'x'`, `0-4{O " 0-1, C 'x' 1-4} D2@0-1`)
	lines(t, `'"x"`, `0-4{O ' 0-1, S "x" 1-4} D2@0-1`)
	lines(t, `'"`, `0-2{O ' 0-1, O " 1-2} D2@0-1 D2@1-2`)
	lines(t, `"'`, `0-2{O " 0-1, O ' 1-2} D2@0-1 D2@1-2`)
	lines(t, `it's`, `0-4{I it 0-2, O ' 2-3, I s 3-4} D2@2-3`)
	lines(t, `#error it's "so`, `0-15{P # 0-1, I error 1-6, _I it 7-9, O ' 9-10, I s 10-11, _O " 12-13, I so 13-15} D2@9-10 D2@12-13`)
}

func TestNames(t *testing.T) {
	for _, name := range []string{"a", "z", "A", "Z", "_", "L", "u", "U", "u8", "a1", "_9", "__FILE__", "x0y1z2", "int", "e", "E", "p1", "L8", "u88"} {
		texts(t, name, "I:"+name)
		texts(t, name+"+"+name+" "+name, "I:"+name+" P:+ I:"+name+" _I:"+name)
		texts(t, name+"."+name, "I:"+name+" P:. I:"+name)
	}
	texts(t, "a$b", "I:a O:$ I:b")
	texts(t, "a@b`c", "I:a O:@ I:b O:` I:c")
	texts(t, "e+1", "I:e P:+ N:1")
	texts(t, "a.5", "I:a N:.5")
	texts(t, "9a a9", "N:9a _I:a9")
	texts(t, strings.Repeat("x", 5000), "I:"+strings.Repeat("x", 5000))
	eachByte(func(c string) {
		isLetter := c >= "a" && c <= "z" || c >= "A" && c <= "Z" || c == "_"
		isDigit := c >= "0" && c <= "9"
		one, ok := lex.One(c)
		if is := ok && one.Kind == api.Ident; is != isLetter {
			t.Errorf("P5.1: %q begins a name: %v", c, is)
		}
		if one, ok = lex.One("a" + c); ok != (isLetter || isDigit) {
			t.Errorf("P5.1: %q goes on with a name: %v", c, ok)
		}
	})
}

func TestNumbers(t *testing.T) {
	for _, number := range []string{"0", "9", "10", ".5", "1.", "1.5", "1..5", "1...", ".5.", ".0.0", "0x1F", "1e+5", "1E-5", "1p+", "1P-", "1e+e-", "1e+5.x", "0xe+1", "1a_b", "1_", "1L", ".1e+", "3..4", "1.e+.p-"} {
		texts(t, number, "N:"+number)
		texts(t, number+" "+number, "N:"+number+" _N:"+number)
		texts(t, "("+number+")", "P:( N:"+number+" P:)")
		texts(t, "."+number, map[bool]string{true: "P:. N:" + number, false: "N:." + number}[number[0] == '.'])
	}
	texts(t, "1+2", "N:1 P:+ N:2")
	texts(t, "1-2", "N:1 P:- N:2")
	texts(t, "1a+2", "N:1a P:+ N:2")
	texts(t, "1f-2", "N:1f P:- N:2")
	texts(t, "1.+2", "N:1. P:+ N:2")
	texts(t, "1e++2", "N:1e+ P:+ N:2")
	texts(t, "1e+-2", "N:1e+ P:- N:2")
	texts(t, "1e*2", "N:1e P:* N:2")
	texts(t, "1e", "N:1e")
	texts(t, "1ee+2p-3", "N:1ee+2p-3")
	texts(t, "1e +2", "N:1e _P:+ N:2")
	texts(t, "1e\\\n+2", "N:1e+2")
	texts(t, "1->x", "N:1 P:-> I:x")
	texts(t, "1e->x", "N:1e- P:> I:x")
	texts(t, ".", "P:.")
	texts(t, "..", "P:. P:.")
	texts(t, "..5", "P:. N:.5")
	texts(t, "...5", "P:... N:5")
	texts(t, "....5", "P:... N:.5")
	texts(t, ".a", "P:. I:a")
	texts(t, ".e+1", "P:. I:e P:+ N:1")
	texts(t, "1'a'", "N:1 C:'a'")
	texts(t, `1"a"`, `N:1 S:"a"`)
	eachByte(func(c string) {
		inName := c >= "a" && c <= "z" || c >= "A" && c <= "Z" || c == "_" || c >= "0" && c <= "9"
		if _, ok := lex.One("1" + c); ok != (inName || c == ".") {
			t.Errorf("P5.1: %q goes on with a number: %v", c, ok)
		}
		for _, sign := range []string{"+", "-"} {
			if _, ok := lex.One("1" + c + sign); ok != strings.Contains("eEpP", c) {
				t.Errorf("P5.1: %q goes on with a number behind %q: %v", sign, c, ok)
			}
		}
	})
}

func TestPuncts(t *testing.T) {
	all := strings.Fields(puncts)
	if len(all) != 54 {
		t.Fatalf("%d punctuators", len(all))
	}
	for _, one := range all {
		texts(t, one, "P:"+one)
		texts(t, one+" "+one, "P:"+one+" _P:"+one)
		texts(t, "a"+one+"b", "I:a P:"+one+" I:b")
		eachByte(func(c string) {
			linesAsOracle(t, one+c)
			linesAsOracle(t, one+c+"x")
			linesAsOracle(t, c+one)
			oneAsOracle(t, one+c)
		})
		for _, other := range all {
			linesAsOracle(t, one+other)
			linesAsOracle(t, one+" "+other)
			oneAsOracle(t, one+other)
			for _, third := range all {
				oneAsOracle(t, one+other+third)
			}
		}
	}
	texts(t, "..", "P:. P:.")
	texts(t, "...", "P:...")
	texts(t, "....", "P:... P:.")
	texts(t, ".....", "P:... P:. P:.")
	texts(t, "......", "P:... P:...")
	texts(t, "%:", "P:%:")
	texts(t, "%:%", "P:%: P:%")
	texts(t, "%:%:", "P:%:%:")
	texts(t, "%:%:%", "P:%:%: P:%")
	texts(t, "%:%:%:", "P:%:%: P:%:")
	texts(t, "%:%>", "P:%: P:%>")
	texts(t, "%%:", "P:% P:%:")
	texts(t, "<::>", "P:<: P::>")
	texts(t, "<::", "P:<: P::")
	texts(t, "<:::>", "P:<: P:: P::>")
	texts(t, "::", "P:: P::")
	texts(t, "<<<=", "P:<< P:<=")
	texts(t, "<<=<", "P:<<= P:<")
	texts(t, ">>>=>", "P:>> P:>= P:>")
	texts(t, "->*", "P:-> P:*")
	texts(t, "--->", "P:-- P:->")
	texts(t, "-->", "P:-- P:>")
	texts(t, "###", "P:## P:#")
	texts(t, "a+++++b", "I:a P:++ P:++ P:+ I:b")
	texts(t, "+=+", "P:+= P:+")
	texts(t, "&&&=", "P:&& P:&=")
	texts(t, "|||=", "P:|| P:|=")
	texts(t, "^^=", "P:^ P:^=")
	texts(t, "~=", "P:~ P:=")
	texts(t, "===", "P:== P:=")
	texts(t, "!==", "P:!= P:=")
	texts(t, "<%>", "P:<% P:>")
	texts(t, "?:", "P:? P::")
	texts(t, "/=*", "P:/= P:*")
	texts(t, "%=%", "P:%= P:%")
}

func TestOthers(t *testing.T) {
	begun := " \t\v\f\r\n\"'" + strings.Join(strings.Fields(puncts), "")
	eachByte(func(c string) {
		linesAsOracle(t, c)
		linesAsOracle(t, c+c)
		linesAsOracle(t, "a"+c+"b")
		linesAsOracle(t, " "+c+" \n"+c)
		if strings.Contains(begun, c) || c >= "0" && c <= "9" || c >= "a" && c <= "z" || c >= "A" && c <= "Z" || c == "_" {
			return
		}
		lines(t, c, "0-1{O "+c+" 0-1}")
		lines(t, c+c+" "+c, "0-4{O "+c+" 0-1, O "+c+" 1-2, _O "+c+" 3-4}")
	})
	lines(t, "é", "0-2{O \xc3 0-1, O \xa9 1-2}")
}

func TestSpansOfWhatTrigraphsAndSplicesSpell(t *testing.T) {
	lines(t, "??=define", "0-9{P # 0-3, I define 3-9}")
	lines(t, "??=??=", "0-6{P ## 0-6}")
	lines(t, "#??=x", "0-5{P ## 0-4, I x 4-5}")
	lines(t, "??(??)", "0-6{P [ 0-3, P ] 3-6}")
	lines(t, "??!??!=", "0-7{P || 0-6, P = 6-7}")
	lines(t, "??'=", "0-4{P ^= 0-4}")
	lines(t, "??<??>??-", "0-9{P { 0-3, P } 3-6, P ~ 6-9}")
	lines(t, "??/x", "0-4{O \\ 0-3, I x 3-4}")
	lines(t, "??", "0-2{P ? 0-1, P ? 1-2}")
	lines(t, "'??/''", "0-6{C '\\'' 0-6}")
	lines(t, "a\\\nb\\\nc+", "0-8{I abc 0-7, P + 7-8}")
	lines(t, "a??/\nb", "0-6{I ab 0-6}")
	lines(t, "\\\na\\\n+", "0-6{I a 2-3, P + 5-6}") // a splice ahead of a token, or behind it, is not of it
	lines(t, "+\\\n+\\\n+", "0-7{P ++ 0-4, P + 6-7}")
	lines(t, "%\\\n:\\\n%\\\n:", "0-10{P %:%: 0-10}")
	lines(t, ".\\\n.\\\n.", "0-7{P ... 0-7}")
	lines(t, "1\\\n.\\\n5e\\\n+", "0-11{N 1.5e+ 0-11}")
	lines(t, ".\\\n5", "0-4{N .5 0-4}")
	lines(t, "\"\\\n\\\n\"", "0-6{S \"\" 0-6}")
	lines(t, "L\\\n'\\\nx\\\n'", "0-10{C L'x' 0-10}")
	lines(t, "\\\n\"\\\nx", "0-6{O \" 2-3, I x 5-6} D2@2-3")
	lines(t, "a\\\n\nb\\\nc", "0-4{I a 0-1} 4-8{I bc 4-8}")
}

func TestLinesOfAllShortTexts(t *testing.T) {
	anyOf([]string{"a", "\"", "'", "\\", "\n", "/", "*", " "}, 5, func(text string) { linesAsOracle(t, text) })
	anyOf([]string{"u", "8", "L", "\"", "'", "\\", "x"}, 5, func(text string) { linesAsOracle(t, text) })
	anyOf([]string{"1", ".", "e", "P", "+", "-", ">"}, 5, func(text string) { linesAsOracle(t, text) })
	anyOf([]string{"<", ":", "%", ">", "=", "."}, 5, func(text string) { linesAsOracle(t, text) })
	anyOf([]string{"a", "/*", "*/", "//", "\n", "\\\n", "\"", "??/"}, 5, func(text string) { linesAsOracle(t, text) })
}

func TestLinesOfSomeTexts(t *testing.T) {
	someTexts(3000, 50, func(text string) { linesAsOracle(t, text) })
	someTexts(30, 2000, func(text string) { linesAsOracle(t, text) })
}

// TestLinesOfLongTexts: none of them takes long, though each quote of some is looked for up to the line's end.
func TestLinesOfLongTexts(t *testing.T) {
	const n = 4 * api.MaxFile
	for _, x := range []struct {
		piece              string
		lines, toks, diags int // of each piece
	}{
		{`\"`, 0, 2, 1}, {`\'`, 0, 2, 1}, {`\"\'`, 0, 4, 2}, {`L\"u8\'`, 0, 6, 2}, {"\\\"\n", 1, 2, 1},
		{"x ", 0, 1, 0}, {"\n", 1, 0, 0}, {"\"\n", 1, 1, 1}, {"/**/", 0, 0, 0}, {`""`, 0, 1, 0}, {"%: ", 0, 1, 0}, {"a\\\n+", 0, 2, 0}, {"//\n", 1, 0, 0},
	} {
		times := n / len(x.piece)
		l, diags := lex.Lines("f.c", strings.Repeat(x.piece, times)+"\n")
		toks := 0
		for _, line := range l {
			toks += len(line.Toks)
		}
		if len(l) != x.lines*times+1 || toks != x.toks*times || len(diags) != x.diags*times {
			t.Errorf("P5.1: Lines of %q, %d times: got %d lines, %d tokens, %d diagnostics", x.piece, times, len(l), toks, len(diags))
		}
	}
}

func one(t *testing.T, text string, kind int) {
	t.Helper()
	got, ok := lex.One(text)
	want := api.Token{}
	if kind != 0 {
		want = api.Token{Kind: kind, Text: text}
	}
	if ok != (kind != 0) || !sameToken(got, want) || got.Sites != nil {
		t.Errorf("P5.2: One(%q): got %+v, %v, want kind %d", text, got, ok, kind)
	}
}

func TestOneOfATokenOfEachKind(t *testing.T) {
	for _, text := range []string{"a", "_", "ab1", "L", "u8", "__VA_ARGS__", strings.Repeat("y", 3000)} {
		one(t, text, api.Ident)
	}
	for _, text := range []string{"0", "1a.b", ".5", "1e+", "0x1p-2", "3..4", "1.e+E-_"} {
		one(t, text, api.Number)
	}
	for _, text := range []string{"'a'", "''", "L'x'", "u'x'", "U'x'", `'\''`, `'"'`, "' '", `'\\'`, "'//'"} {
		one(t, text, api.Char)
	}
	for _, text := range []string{`"a"`, `""`, `L"x"`, `u"x"`, `U"x"`, `u8"x"`, `"x y"`, "\"\t\v\f\r \"", `"\""`, `"\\"`, `"'"`, `"//"`, `"/*"`, `"/* */"`, "\"\xff\x00\"", `"??="`, `"??/"`} {
		one(t, text, api.String)
	}
	for _, text := range strings.Fields(puncts) {
		one(t, text, api.Punct)
	}
	for _, text := range []string{"@", "$", "`", "\\", "\x00", "\x7f", "\x80", "\xff"} {
		one(t, text, api.Other)
	}
}

func TestOneOfWhatIsNone(t *testing.T) {
	for _, text := range []string{
		"",
		" ", "\t", "\v", "\f", "\r", "   ", "\n", "\n\n", " \n", // no token
		" a", "a ", "\ta", "a\r", "a b", "+ ", " +", " \"x\"", "\"x\" ", "L \"x\"", "1 ", "1e +", ". 5", "+ +", // white space ahead of, behind and within one
		"a\n", "\na", "a\nb", "\"x\"\n", "\"x\ny\"", "'x\n'", "\"\\\n\"", "+\n", "\n+", "@\n", "1\n", // a byte 10
		"//", "//x", "/*", "/**/", "/*x*/", "/* x */", "/*/", "/**/a", "a/**/", "a/**/b", "a//", "+//x", "/**/ ", "/*\n*/", // a comment
		"ab+", "+a", "+-", "..", "%:%", "<::", "1+1", "a.b", "a'b'", "'a''b'", `"a""b"`, `"a"b`, `u8'a'`, `xL"a"`, "@@", "1@", "a$", "é", "->*", "....", // more than one
		`"`, `'`, `L"`, `L'`, `u8"`, `"x`, `'x`, `x"`, `"x'`, `'x"`, `"\"`, `'\'`, `"\\\"`, `"\`, `'\`, `u8"\"`, `""x"`, `"x" "`, // a quote that does not end
		"??=", "??/", "??(", "a\\\nb", "\\\n", "\\\na", "a\\\n", "\"a\\\nb\"", "??/\n", // no phases are asked
	} {
		one(t, text, 0)
	}
}

func TestOneOfAllShortTexts(t *testing.T) {
	anyOf([]string{"a", "\"", "'", "\\", "\n", "/", "*", " ", "L", "u8"}, 5, func(text string) { oneAsOracle(t, text) })
	anyOf([]string{"1", ".", "e", "P", "+", "-", "_"}, 5, func(text string) { oneAsOracle(t, text) })
	anyOf([]string{"<", ":", "%", ">", "=", "&", "|"}, 5, func(text string) { oneAsOracle(t, text) })
	someTexts(3000, 4, func(text string) { oneAsOracle(t, text) })
	eachByte(func(a string) {
		oneAsOracle(t, a)
		oneAsOracle(t, `"`+a+`"`)
		oneAsOracle(t, `L'`+a+`'`)
		oneAsOracle(t, `"\`+a+`"`)
		eachByte(func(b string) { oneAsOracle(t, a+b) })
	})
}

func TestOneAndLinesAreOfOneMind(t *testing.T) {
	someTexts(1000, 60, func(text string) {
		l, _ := lex.Lines("f.c", text)
		for _, line := range l {
			for _, x := range line.Toks {
				if got, ok := lex.One(x.Text); ok == isQuote(x.Text) || ok && (got.Kind != x.Kind || got.Text != x.Text) {
					t.Errorf("P5.2: One(%q), of a token of kind %d: got %+v, %v", x.Text, x.Kind, got, ok)
				}
			}
		}
	})
}

func TestText(t *testing.T) {
	a := api.Token{Kind: api.Ident, Text: "a"}
	spaced := api.Token{Kind: api.Ident, Text: "b", Space: true}
	none := api.Token{}
	noneSpaced := api.Token{Space: true}
	odd := api.Token{Kind: -7, Text: " \n", Space: true, Made: true, Sites: []api.Site{{Macro: "M"}}}
	for _, x := range []struct {
		l    []api.Token
		want string
	}{
		{nil, ""}, {[]api.Token{}, ""}, {[]api.Token{a}, "a"}, {[]api.Token{spaced}, "b"},
		{[]api.Token{a, a}, "aa"}, {[]api.Token{a, spaced}, "a b"}, {[]api.Token{spaced, a}, "ba"}, {[]api.Token{spaced, spaced, spaced}, "b b b"},
		{[]api.Token{a, spaced, a, a, spaced}, "a baa b"},
		{[]api.Token{none}, ""}, {[]api.Token{noneSpaced}, ""}, {[]api.Token{none, spaced}, " b"}, {[]api.Token{noneSpaced, noneSpaced}, " "}, {[]api.Token{none, a, noneSpaced, a}, "a a"},
		{[]api.Token{odd}, " \n"}, {[]api.Token{a, odd, a}, "a  \na"},
	} {
		if got := lex.Text(x.l); got != x.want {
			t.Errorf("P5.2: Text(%+v): got %q, want %q", x.l, got, x.want)
		}
	}
	l, _ := lex.Lines("f.c", "  a  /* */b+ c\t[\v1 ]\n")
	if got := lex.Text(l[0].Toks); got != "a b+ c [ 1 ]" {
		t.Errorf("P5.2: Text: got %q", got)
	}
}

// Each byte is in one line, and a text's lines are those of its lines.
func TestLinesOfLines(t *testing.T) {
	see := func(text string) {
		all, allDiags := lex.Lines("f.c", text)
		at := 0
		var diags []api.Diag
		for i, line := range all {
			if line.From != at || line.To <= at || line.To > len(text) {
				t.Fatalf("P5.3: Lines of %q: line %d is from %d to %d, behind %d", text, i, line.From, line.To, at)
			}
			at = line.To
			part, partDiags := lex.Lines("f.c", text[line.From:line.To])
			if len(part) != 1 {
				t.Fatalf("P5.3: Lines of %q: line %d alone is %d lines", text, i, len(part))
			}
			moved := lex.Line{From: part[0].From + line.From, To: part[0].To + line.From, Open: part[0].Open}
			for _, x := range part[0].Toks {
				x.Span = move(x.Span, line.From)
				moved.Toks = append(moved.Toks, x)
			}
			for _, d := range partDiags {
				diags = append(diags, api.Diag{Code: d.Code, Span: move(d.Span, line.From)})
			}
			if !sameLine(moved, line) || line.Open && i < len(all)-1 {
				t.Fatalf("P5.3: Lines of %q: line %d is %s, alone %s", text, i, told(all[i:i+1], nil), told([]lex.Line{moved}, nil))
			}
		}
		if at != len(text) || !slices.Equal(diags, allDiags) {
			t.Fatalf("P5.3: Lines of %q: got %s, alone %s", text, told(all, allDiags), told(nil, diags))
		}
	}
	anyOf([]string{"a", "\"", "\\", "\n", "/", "*", " "}, 6, see)
	anyOf([]string{"\\\n", "??/", "\n", "'", "+", "/*", "*/"}, 6, see)
	someTexts(2000, 100, see)
	someTexts(3, 20000, see)
}

func move(s api.Span, by int) api.Span {
	s.From += by
	s.To += by
	return s
}

func TestLinesAreNewMemory(t *testing.T) {
	const text = "a+b /* */ \"c\nL'x' 1\n\"\n/*"
	want := told(lex.Lines("f.c", text))
	first, firstDiags := lex.Lines("f.c", text)
	second, secondDiags := lex.Lines("f.c", text)
	for i := range first {
		for j := range first[i].Toks {
			first[i].Toks[j] = api.Token{Kind: api.Other, Text: "X"}
		}
		first[i] = lex.Line{From: -1}
	}
	for i := range firstDiags {
		firstDiags[i] = api.Diag{}
	}
	if got := told(second, secondDiags); got != want {
		t.Errorf("P5.3: Lines: a second answer became %s, want %s", got, want)
	}
	if got := told(lex.Lines("f.c", text)); got != want {
		t.Errorf("P5.3: Lines: got %s behind a change of what was answered, want %s", got, want)
	}
	for i := range second { // what is put behind one list is in no other one
		_ = append(second[i].Toks, api.Token{Kind: api.Other, Text: "X"}, api.Token{Kind: api.Other, Text: "Y"})
	}
	if got := told(second, secondDiags); got != want {
		t.Errorf("P5.3: Lines: became %s behind what was put behind its lists, want %s", got, want)
	}
}

// TestNothingIsKept: what is answered keeps no text alive that was handed in.
func TestNothingIsKept(t *testing.T) {
	file, text := strings.Repeat("f", 10), strings.Repeat("a+'x' \n", 10)
	l, _ := lex.Lines(file, text)
	for _, line := range l {
		for _, x := range line.Toks {
			if shares(text, x.Text) || shares(file, x.Span.File) {
				t.Fatalf("P5.3: Lines: got a piece of what was handed in: %+v", x)
			}
		}
	}
	_, diags := lex.Lines(file, "'")
	if shares(file, diags[0].Span.File) {
		t.Errorf("P5.3: Lines: got the name that was handed in")
	}
	name := strings.Repeat("n", 10)
	if x, _ := lex.One(name); shares(name, x.Text) {
		t.Errorf("P5.3: One: got what was handed in")
	}
	if got := lex.Text([]api.Token{{Text: name}}); shares(name, got) {
		t.Errorf("P5.3: Text: got what was handed in")
	}
	toks := []api.Token{{Text: "a"}, {Text: "b", Space: true}, {Text: "spare"}}
	lex.Text(toks[:2])
	if toks[0].Text != "a" || toks[1].Text != "b" || !toks[1].Space || toks[2].Text != "spare" {
		t.Errorf("P5.3: Text changed what was handed in: %+v", toks)
	}
}

func shares(whole, piece string) bool {
	start := uintptr(unsafe.Pointer(unsafe.StringData(whole)))
	at := uintptr(unsafe.Pointer(unsafe.StringData(piece)))
	return piece != "" && at >= start && at < start+uintptr(len(whole))
}

// TestCallsHangOnNothingElse: what was asked ahead of a call changes nothing, and a file's name is just told.
func TestCallsHangOnNothingElse(t *testing.T) {
	const text = "a 'b\n\"c\" /*"
	want := told(lex.Lines("f.c", text))
	for _, file := range []string{"", "f.c", "/\n", "\xff", strings.Repeat("long", 1000)} {
		lex.Lines("other", "\"\\\" /*")
		lex.One("'")
		l, diags := lex.Lines(file, text)
		if got := told(l, diags); got != want {
			t.Errorf("P5.1: Lines(%q, ..): got %s, want %s", file, got, want)
		}
		for _, x := range slices.Concat(l[0].Toks, l[1].Toks) {
			if x.Span.File != file {
				t.Errorf("P5.1: Lines(%q, ..): got the Span %+v", file, x.Span)
			}
		}
		for _, d := range diags {
			if d.Span.File != file {
				t.Errorf("P5.1: Lines(%q, ..): got the Span %+v", file, d.Span)
			}
		}
	}
}

// TestGrows: what Grows tells of a token's Kind and last byte alone is so; of names and numbers it tells all, but of names that go ahead of a quote.
func TestGrows(t *testing.T) {
	texts := []string{"a", "L", "u8", "_9", "E", "1", ".5", "1e", "0x1P", "1e+", "1.", "+", ".", "#", "\"x\"", "L'y'", "@"}
	pieces := []string{"", "a", "1", "_", ".", "e+", "e-1", "+", "p", "p+", "-1", "..", "1.5", "a.b", "a+", "\"x\"", "'x'", "8\"x\"", " ", "\n", "a b", "#", "$", "=", "\x80"}
	for _, text := range texts {
		one, ok := lex.One(text)
		if !ok {
			t.Errorf("%q is no token", text)
		}
		for _, piece := range pieces {
			both, ok := lex.One(text + piece)
			is := ok && both.Kind == one.Kind
			told := lex.Grows(one.Kind, text[len(text)-1], piece)
			if told && !is || is && !told && (one.Kind == api.Ident || one.Kind == api.Number) {
				t.Errorf("%q goes on with %q: got %v", text, piece, told)
			}
		}
	}
}
