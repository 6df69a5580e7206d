package macro_test

import (
	"fmt"
	"math/rand"
	"regexp"
	"slices"
	"testing"

	"oxbow/api"
	"oxbow/macro"
)

// letters is a row of tokens, each as one letter: n of a name, v of __VA_ARGS__, the signs of a head as they are, . of ..., h of a hash, p of a paste, x of all others.
func letters(l []api.Token) string {
	out := make([]byte, len(l))
	for i, t := range l {
		out[i] = 'x'
		if t.Kind == api.Ident {
			out[i] = 'n'
		}
		switch fmt.Sprint(t.Kind, t.Text) {
		case "1__VA_ARGS__":
			out[i] = 'v'
		case "5(", "5)", "5,", "5...":
			out[i] = t.Text[0]
		case "5#", "5%:":
			out[i] = 'h'
		case "5##", "5%:%:":
			out[i] = 'p'
		}
	}
	return string(out)
}

// heads are the rows of parameters.
var heads = regexp.MustCompile(`^\((n(,n)*(,\.)?|\.)?\)`)

// model is Parse, by a pattern of the head, and by a list of all faults of the Body.
func model(rest []api.Token) (macro.Macro, []api.Diag) {
	if len(rest) == 0 {
		return macro.Macro{}, []api.Diag{{Code: api.DName}}
	}
	name, rest := rest[0], rest[1:]
	m := macro.Macro{Name: name.Text, Span: name.Span}
	wrong := func(code int, span api.Span) (macro.Macro, []api.Diag) {
		return macro.Macro{}, []api.Diag{{Code: code, Span: span}}
	}
	if name.Kind != api.Ident {
		return wrong(api.DName, name.Span)
	}
	if slices.Contains([]string{"defined", "__FILE__", "__LINE__", "__VA_ARGS__"}, name.Text) {
		return wrong(api.DDefine, name.Span)
	}
	row := letters(rest)
	if len(row) > 0 && row[0] == '(' && !rest[0].Space {
		m.Func = true
		head := heads.FindString(row)
		if head == "" {
			return wrong(api.DDefine, name.Span)
		}
		for i := range head {
			switch head[i] {
			case 'n':
				m.Params = append(m.Params, rest[i].Text)
			case '.':
				m.Params = append(m.Params, "__VA_ARGS__")
				m.Variadic = true
			}
		}
		sorted := slices.Sorted(slices.Values(m.Params))
		if len(slices.Compact(sorted)) < len(m.Params) {
			return wrong(api.DDefine, name.Span)
		}
		rest, row = rest[len(head):], row[len(head):]
	}
	if faults := modelFaults(m, rest, row); len(faults) > 0 {
		return wrong(api.DDefine, rest[slices.Min(faults)].Span)
	}
	m.Body = slices.Clone(rest)
	if len(m.Body) > 0 {
		m.Body[0].Space = false
	}
	return m, nil
}

// modelFaults is the places of all that may not stand in a Body.
func modelFaults(m macro.Macro, body []api.Token, row string) (faults []int) {
	if len(row) > 0 && row[0] == 'p' {
		faults = append(faults, 0)
	}
	if len(row) > 0 && row[len(row)-1] == 'p' {
		faults = append(faults, len(row)-1)
	}
	for i := range row {
		if row[i] == 'h' && m.Func {
			if i == len(row)-1 || row[i+1] != 'n' && row[i+1] != 'v' || !slices.Contains(m.Params, body[i+1].Text) {
				faults = append(faults, i)
			}
		}
		if row[i] == 'v' && !m.Variadic {
			faults = append(faults, i)
		}
	}
	return faults
}

// row is tokens by their places in an alphabet, each with a Span of its own.
func row(alphabet []api.Token, places []int) []api.Token {
	l := make([]api.Token, len(places))
	for i, place := range places {
		l[i] = alphabet[place]
		l[i].Span = api.Span{File: "m", From: 10*i + 1, To: 10*i + 5}
	}
	return l
}

// check holds Parse against the model.
func check(t *testing.T, l []api.Token) {
	t.Helper()
	m, diags := macro.Parse(l)
	want, wantDiags := model(l)
	if !sameMacros(m, want) || !slices.Equal(diags, wantDiags) {
		t.Fatalf("P9.1: Parse of %+v:\n got %+v, %v\nwant %+v, %v", l, m, diags, want, wantDiags)
	}
}

func idents(texts ...string) (l []api.Token) {
	for _, text := range texts {
		l = append(l, api.Token{Kind: api.Ident, Text: text})
	}
	return l
}

func signs(texts ...string) (l []api.Token) {
	for _, text := range texts {
		l = append(l, api.Token{Kind: api.Punct, Text: text})
	}
	return l
}

// allRows holds Parse of head and each row of up to most tokens of the alphabet behind it against the model.
func allRows(t *testing.T, head, alphabet []api.Token, most int) {
	t.Helper()
	all := append(slices.Clone(head), alphabet...)
	places := make([]int, len(head))
	for i := range places {
		places[i] = i
	}
	for {
		check(t, row(all, places))
		at := len(places) - 1
		for ; at >= len(head) && places[at] == len(all)-1; at-- {
			places[at] = len(head)
		}
		if at >= len(head) {
			places[at]++
		} else if len(places) == len(head)+most {
			return
		} else {
			places = append(places, len(head))
		}
	}
}

func TestAllShortRows(t *testing.T) {
	spaced := api.Token{Kind: api.Punct, Text: "(", Space: true}
	others := []api.Token{{Kind: api.Number, Text: "1"}, {Kind: api.Other, Text: "("}, {Kind: api.String, Text: "__VA_ARGS__"}, spaced}
	all := slices.Concat(idents("a", "b", "__VA_ARGS__", "defined", "__FILE__", "__LINE__"), signs("(", ")", ",", "...", "#", "%:", "##", "%:%:"), others)
	allRows(t, nil, all, 4)
	name, a, b, va := idents("F"), idents("a"), idents("b"), idents("__VA_ARGS__")
	allRows(t, append(name, signs("(")...), slices.Concat(a, b, va, signs("(", ")", ",", "..."), others[:1]), 6)
	body := slices.Concat(idents("a", "c", "__VA_ARGS__"), signs("#", "##", ")", "%:%:"))
	body[1].Space, body[3].Space, body[4].Space = true, true, true
	for _, head := range [][]api.Token{
		nil,
		{spaced},
		signs("(", ")"),
		slices.Concat(signs("("), a, signs(")")),
		signs("(", "...", ")"),
		slices.Concat(signs("("), a, signs(",", "...", ")")),
		slices.Concat(signs("("), b, signs(","), a, signs(")")),
	} {
		allRows(t, append(idents("F"), head...), body, 5)
	}
}

// fit puts a row that is mostly one of a macro together.
func fit(random *rand.Rand) []api.Token {
	l := idents("F")
	if random.Intn(4) > 0 {
		l = append(l, signs("(")...)
		for n := range random.Intn(6) {
			if n > 0 {
				l = append(l, signs(",")...)
			}
			l = append(l, idents(fmt.Sprint("p", random.Intn(30)))...)
		}
		if random.Intn(3) == 0 {
			if len(l) > 2 {
				l = append(l, signs(",")...)
			}
			l = append(l, signs("...")...)
		}
		l = append(l, signs(")")...)
	}
	for range random.Intn(30) {
		switch random.Intn(12) {
		case 0:
			l = append(l, signs("##")...)
		case 1, 2:
			l = append(l, signs("#", "%:")[random.Intn(2)])
			l = append(l, l[min(2, len(l)-1)])
		case 3:
			l = append(l, signs("...", "(", ")", ",")[random.Intn(4)])
		case 4:
			if random.Intn(4) == 0 {
				l = append(l, idents("__VA_ARGS__")...)
			}
		default:
			l = append(l, idents(fmt.Sprint("p", random.Intn(30)))...)
		}
	}
	return l
}

func TestRandomRows(t *testing.T) {
	random := rand.New(rand.NewSource(9))
	wrong := slices.Concat(idents("__VA_ARGS__", "p1", "defined"), signs("(", ")", ",", "...", "#", "##"), []api.Token{{Kind: api.Number, Text: "1"}})
	right := 0
	for range 60000 {
		l := fit(random)
		if random.Intn(2) == 0 {
			l[random.Intn(len(l))] = wrong[random.Intn(len(wrong))]
		}
		for i := range l {
			l[i].Span = api.Span{File: "m", From: 10*i + 1, To: 10*i + 5}
			l[i].Space = random.Intn(8) == 0
		}
		check(t, l)
		if _, diags := macro.Parse(l); len(diags) == 0 {
			right++
		}
	}
	if right < 10000 || right > 50000 {
		t.Errorf("%d of the rows are macros: the rows tell little", right)
	}
}
