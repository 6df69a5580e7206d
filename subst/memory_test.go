package subst_test

import (
	"reflect"
	"slices"
	"testing"

	"oxbow/api"
	"oxbow/macro"
	"oxbow/subst"
)

// roomySites is Sites with spare room.
func roomySites() []api.Site {
	return append(make([]api.Site, 0, 5), api.Site{Macro: "s", Name: api.Span{File: "g", From: 3, To: 4}}, api.Site{Made: true})
}

// roomy is the tokens of a text, with spare room, that all have one list of Sites.
func roomy(t *testing.T, text string) []api.Token {
	t.Helper()
	sites := roomySites()
	l := append(make([]api.Token, 0, 40), line(t, text)...)
	for i := range l {
		l[i].Sites = sites
	}
	return l
}

// given is what a Body is handed in.
type given struct {
	m         macro.Macro
	raw, full [][]api.Token
	sites     []api.Site
}

// given is all of it with spare room. The arguments are one list.
func from(t *testing.T, body string) *given {
	t.Helper()
	arg := roomy(t, "p + q")
	list := append(make([][]api.Token, 0, 9), arg, arg, arg[:0], arg[1:2])
	names := append(make([]string, 0, 9), "a", "b", "c", "d")
	return &given{macro.Macro{Name: "F", Func: true, Params: names, Body: roomy(t, body)}, list, list, roomySites()}
}

// whole is all that is handed in, with the spare room.
func (g *given) whole() *given {
	out := &given{g.m, nil, nil, g.sites[:cap(g.sites)]}
	out.m.Params, out.m.Body = g.m.Params[:cap(g.m.Params)], g.m.Body[:cap(g.m.Body)]
	for _, l := range slices.Concat(g.raw[:cap(g.raw)], g.full[:cap(g.full)]) {
		out.raw = append(out.raw, l[:cap(l)])
	}
	return out
}

// spoilSites changes Sites, and their spare room.
func spoilSites(l []api.Site) {
	l = l[:cap(l)]
	for i := range l {
		l[i] = api.Site{Macro: "wrong", Made: true}
	}
}

// spoilTokens changes all that tokens have, and their spare room.
func spoilTokens(l []api.Token) {
	for i := range l {
		spoilSites(l[i].Sites)
	}
	l = l[:cap(l)]
	for i := range l {
		l[i] = api.Token{Kind: 99, Text: "wrong", Sites: []api.Site{{Macro: "wrong"}}}
	}
}

// spoil changes all that was handed in.
func (g *given) spoil() {
	for _, l := range g.raw {
		spoilTokens(l)
	}
	spoilTokens(g.m.Body)
	spoilSites(g.sites)
	params := g.m.Params[:cap(g.m.Params)]
	for i := range params {
		params[i] = "wrong"
	}
}

func (g *given) body() answer {
	toks, from, diags := subst.Body(g.m, g.raw, g.full, api.Site{Macro: "F"}, g.sites)
	return answer{toks, from, diags}
}

// spoil changes an answer, and its spare room.
func (a answer) spoil() {
	spoilTokens(a.toks)
	for i := range a.from[:cap(a.from)] {
		a.from[:cap(a.from)][i] = 99
	}
	for i := range a.diags[:cap(a.diags)] {
		a.diags[:cap(a.diags)][i].Code = 99
	}
}

var bodies = []string{"", "x", "a", "b a", "x y z", "#a", "#a #b", "a##b", "a##b##a", "b##x", "x##b", "x##y", "c##a", "a##c", "c##c", "a ## + ## d", "d##d", "a##a x #a##y c b", "# ## #"}

func TestBodyNewMemory(t *testing.T) {
	for _, text := range bodies {
		g, want := from(t, text), from(t, text)
		out := g.body()
		g.body().spoil()
		if !reflect.DeepEqual(g.whole(), want.whole()) {
			t.Errorf("P11.4: Body of %q: what came in was changed: %+v", text, g.whole())
		}
		g.spoil()
		if now := want.body(); !same(out, now) {
			t.Errorf("P11.4: Body of %q: what was answered is not of its own: %+v", text, out)
		}
	}
}

func TestWantsNewMemory(t *testing.T) {
	for _, text := range bodies {
		g, want := from(t, text), from(t, text)
		raw, full := subst.Wants(g.m)
		for i := range raw {
			raw[i] = !raw[i]
			_ = append(raw[:len(raw):cap(raw)], true, true)
		}
		if now, nowFull := subst.Wants(want.m); slices.Equal(raw, now) || !slices.Equal(full, nowFull) {
			t.Errorf("P11.4: Wants of %q: two lists share memory: %v, %v", text, raw, full)
		}
		if !reflect.DeepEqual(g.whole(), want.whole()) {
			t.Errorf("P11.4: Wants of %q: what came in was changed: %+v", text, g.whole())
		}
	}
}

// TestSitesOfTheirOwn: no two tokens of one answer share Sites, also where those that came in do.
func TestSitesOfTheirOwn(t *testing.T) {
	for _, text := range bodies {
		want := from(t, text).body().toks
		for spoiled := range want {
			got := from(t, text).body().toks
			spoilSites(got[spoiled].Sites)
			for i := range got {
				if i != spoiled && !sameToken(got[i], want[i]) {
					t.Errorf("P11.4: Body of %q: tokens %d and %d share Sites", text, spoiled, i)
				}
			}
		}
	}
}

func TestPasteNewMemory(t *testing.T) {
	for _, text := range []string{"a b", "a +", "+ +"} {
		l, want := roomy(t, text), roomy(t, text)
		got, ok := subst.Paste(l[0], l[1])
		again, _ := subst.Paste(l[0], l[1])
		spoilSites(again.Sites)
		if !reflect.DeepEqual(l[:cap(l)], want[:cap(want)]) {
			t.Errorf("P11.4: Paste of %q: what came in was changed: %+v", text, l)
		}
		spoilTokens(l)
		if now, nowOK := subst.Paste(want[0], want[1]); !sameToken(got, now) || ok != nowOK {
			t.Errorf("P11.4: Paste of %q: what was answered is not of its own: %+v", text, got)
		}
	}
}
