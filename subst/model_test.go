package subst_test

import (
	"fmt"
	"slices"
	"testing"

	"oxbow/api"
	"oxbow/args"
	"oxbow/lex"
	"oxbow/macro"
)

// line is the tokens of a text of one line.
func line(t *testing.T, text string) []api.Token {
	t.Helper()
	l, _ := lex.Lines("f.c", text)
	if len(l) > 1 {
		t.Fatalf("%q has %d lines", text, len(l))
	}
	if len(l) == 0 {
		return nil
	}
	return l[0].Toks
}

// parsed is the macro that a text tells.
func parsed(t *testing.T, text string) macro.Macro {
	t.Helper()
	m, diags := macro.Parse(line(t, text))
	if len(diags) > 0 {
		t.Fatalf("%q is no macro: %v", text, diags)
	}
	return m
}

// sameToken compares all that two tokens have.
func sameToken(a, b api.Token) bool {
	return a.Kind == b.Kind && a.Text == b.Text && a.Space == b.Space && a.Span == b.Span && a.Made == b.Made && slices.Equal(a.Sites, b.Sites)
}

// answer is what Body answers.
type answer struct {
	toks  []api.Token
	from  []int
	diags []api.Diag
}

func same(a, b answer) bool {
	return slices.EqualFunc(a.toks, b.toks, sameToken) && slices.Equal(a.from, b.from) && slices.Equal(a.diags, b.diags)
}

// isPaste and isHash are 9's.
func isPaste(x api.Token) bool {
	return x.Kind == api.Punct && slices.Contains([]string{"##", "%:%:"}, x.Text)
}

func isHash(x api.Token) bool {
	return x.Kind == api.Punct && slices.Contains([]string{"#", "%:"}, x.Text)
}

// thing is what a thing of a Body became, or a paste (paste is not nil).
type thing struct {
	toks  []api.Token
	from  []int
	paste *api.Span
}

// how is how the token at a place of a Body stands.
type how struct {
	place int    // of the parameter; -1
	way   string // of the parameter: "hash", "raw" or "full"
	hash  bool   // a hash of the next one
}

// stands is how each token of a Body does, by what its neighbours are.
func stands(m macro.Macro) []how {
	all := make([]how, len(m.Body))
	for i, x := range m.Body {
		all[i].place = -1
		if m.Func && x.Kind == api.Ident {
			all[i].place = slices.Index(m.Params, x.Text)
		}
	}
	for i := range m.Body {
		if all[i].place < 0 {
			continue
		}
		all[i].way = "full"
		if i+1 < len(m.Body) && isPaste(m.Body[i+1]) || i > 0 && isPaste(m.Body[i-1]) {
			all[i].way = "raw"
		}
		if i > 0 && isHash(m.Body[i-1]) {
			all[i].way, all[i-1].hash = "hash", true
		}
	}
	return all
}

// modelWants is Wants.
func modelWants(m macro.Macro) (raw, full []bool) {
	all := stands(m)
	for place := range m.Params {
		is := func(ways ...string) bool {
			return slices.ContainsFunc(all, func(h how) bool { return h.place == place && slices.Contains(ways, h.way) })
		}
		raw, full = append(raw, is("hash", "raw")), append(full, is("full"))
	}
	return raw, full
}

// modelThings is the Body as things and pastes.
func modelThings(m macro.Macro, raw, full [][]api.Token, sites []api.Site) []thing {
	get := func(list [][]api.Token, place int) []api.Token {
		if place < len(list) {
			return list[place]
		}
		return nil
	}
	var all []thing
	for i, h := range stands(m) {
		x := m.Body[i]
		x.Sites, x.Made = sites, false
		switch {
		case isPaste(x):
			all = append(all, thing{paste: &m.Body[i].Span})
		case h.hash: // told with its parameter
		case h.place < 0:
			all = append(all, thing{toks: []api.Token{x}, from: []int{-1}})
		case h.way == "hash":
			x = m.Body[i-1]
			x.Kind, x.Text, x.Sites, x.Made = api.String, args.Stringize(get(raw, h.place)), sites, true
			all = append(all, thing{toks: []api.Token{x}, from: []int{-1}})
		default:
			l := slices.Clone(get(map[string][][]api.Token{"raw": raw, "full": full}[h.way], h.place))
			if len(l) > 0 {
				l[0].Space = x.Space
			}
			all = append(all, thing{toks: l, from: slices.Repeat([]int{h.place}, len(l))})
		}
	}
	return all
}

// glued is two things as one, and whether they could be pasted, if both are something.
func glued(a, b thing) (thing, bool) {
	out := thing{toks: slices.Concat(a.toks, b.toks), from: slices.Concat(a.from, b.from)}
	if len(a.toks) == 0 || len(b.toks) == 0 {
		return out, true
	}
	at := len(a.toks) - 1
	one, ok := lex.One(out.toks[at].Text + out.toks[at+1].Text)
	if !ok {
		return out, false
	}
	out.toks[at].Kind, out.toks[at].Text, out.toks[at].Made, out.from[at] = one.Kind, one.Text, true, -1
	return thing{toks: slices.Delete(out.toks, at+1, at+2), from: slices.Delete(out.from, at+1, at+2)}, true
}

// model is Body: as long as there is a paste in the list of things, the first one is done, with what stands beside it.
func model(m macro.Macro, raw, full [][]api.Token, site api.Site, sites []api.Site) answer {
	var out answer
	all := modelThings(m, raw, full, append([]api.Site{site}, sites...))
	for {
		at := slices.IndexFunc(all, func(x thing) bool { return x.paste != nil })
		if at < 0 {
			break
		}
		var a, b thing
		from, to := at, at+1
		if from > 0 {
			from--
			a = all[from]
		}
		if to < len(all) && all[to].paste == nil {
			b = all[to]
			to++
		}
		one, ok := glued(a, b)
		if !ok {
			out.diags = append(out.diags, api.Diag{Code: api.DPaste, Span: *all[at].paste})
		}
		all = slices.Replace(all, from, to, one)
	}
	for _, x := range all {
		out.toks, out.from = append(out.toks, x.toks...), append(out.from, x.from...)
	}
	return out
}

// told is what came of a Body as a test writes it: the Texts, and of each token - of the Body, or its parameter's place; diagnostics by where they are.
func told(a answer) string {
	from := ""
	for _, place := range a.from {
		if place < 0 {
			from += "-"
		} else {
			from += fmt.Sprint(place)
		}
	}
	text := lex.Text(a.toks) + "|" + from
	for _, d := range a.diags {
		text += fmt.Sprint(" d", d.Code, "@", d.Span.From, "-", d.Span.To)
	}
	return text
}
