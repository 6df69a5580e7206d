package macro_test

import (
	"reflect"
	"slices"
	"testing"

	"oxbow/api"
	"oxbow/macro"
)

// spoilTokens changes all that tokens have, and their spare room.
func spoilTokens(l []api.Token) {
	for i := range l {
		sites := l[i].Sites[:cap(l[i].Sites)]
		for n := range sites {
			sites[n] = api.Site{Macro: "wrong", Made: true}
		}
	}
	l = l[:cap(l)]
	for i := range l {
		l[i] = api.Token{Kind: 99, Text: "wrong", Sites: []api.Site{{Macro: "wrong"}}}
	}
}

// spoil changes all that a macro has.
func spoil(m macro.Macro) {
	params := m.Params[:cap(m.Params)]
	for i := range params {
		params[i] = "wrong"
	}
	spoilTokens(m.Body)
}

// roomy is tokens with spare room, of which the last two have one list of Sites.
func roomy(l []api.Token) []api.Token {
	sites := append(make([]api.Site, 0, 5), api.Site{Macro: "s", Name: api.Span{File: "g", From: 3, To: 4}}, api.Site{Made: true})
	l = append(make([]api.Token, 0, len(l)+9), l...)
	for i := max(0, len(l)-2); i < len(l); i++ {
		l[i].Sites = sites
	}
	return l
}

// whole is a list with its spare room.
func whole(l []api.Token) []api.Token {
	return l[:cap(l)]
}

func TestParseNewMemory(t *testing.T) {
	for _, text := range []string{"", "1", "A", "A b c", "F(a,b)  a b", "F(a,...)  #a b", "F(a", "A x ##", "F(a,a)", "__LINE__ 1", "A __VA_ARGS__ b"} {
		l, want := roomy(line(t, text)), roomy(line(t, text))
		m, diags := macro.Parse(l)
		again, againDiags := macro.Parse(l)
		spoil(again)
		for i := range againDiags[:cap(againDiags)] {
			againDiags[:cap(againDiags)][i].Code = 99
		}
		if !reflect.DeepEqual(whole(l), whole(want)) {
			t.Errorf("P9.4: %q: what came in was changed: %+v", text, whole(l))
		}
		spoilTokens(l)
		if now, nowDiags := macro.Parse(want); !sameMacros(m, now) || !slices.Equal(diags, nowDiags) {
			t.Errorf("P9.4: %q: what was answered is not of its own: %+v, %v", text, m, diags)
		}
	}
}

// TestSitesOfTheirOwn: lists that came in as one are two in what is answered.
func TestSitesOfTheirOwn(t *testing.T) {
	parse := func() macro.Macro {
		m, _ := macro.Parse(roomy(line(t, "A b c")))
		return m
	}
	get := func() macro.Macro {
		x := macro.New()
		x.Define(macro.Macro{Body: roomy(line(t, "b c"))})
		m, _ := x.Get("")
		return m
	}
	for what, m := range map[string]macro.Macro{"Parse": parse(), "Get": get()} {
		m.Body[0].Sites[0].Macro = "wrong"
		_ = append(m.Body[0].Sites[:1], api.Site{Macro: "wrong"})
		if got := m.Body[1].Sites; len(got) != 2 || got[0].Macro != "s" || !got[1].Made {
			t.Errorf("P9.4: %s: two lists of one answer share memory: %+v", what, got)
		}
	}
}

// room is a macro with spare room in all its lists.
func room() macro.Macro {
	m := full()
	m.Params = append(make([]string, 0, 9), m.Params...)
	m.Body = roomy(m.Body)
	return m
}

func TestTableNewMemory(t *testing.T) {
	x, m := macro.New(), room()
	x.Define(m)
	y := x.Copy()
	x.Define(m)
	for _, table := range []*macro.Table{x, y, x.Copy(), y.Copy()} {
		for range 3 {
			got, _ := table.Get("F")
			spoil(got)
			names := table.Names()
			for i := range names[:cap(names)] {
				names[:cap(names)][i] = "wrong"
			}
		}
	}
	if want := room(); !sameMacros(m, want) || !reflect.DeepEqual(whole(m.Body), whole(want.Body)) || !slices.Equal(m.Params[:9], want.Params[:9]) {
		t.Errorf("P9.4: what came in was changed: %+v", m)
	}
	spoil(m)
	for _, table := range []*macro.Table{x, y} {
		holds(t, table, map[string]macro.Macro{"F": room()}, "wrong")
		if !table.Define(room()) {
			t.Error("P9.4: what the table has was changed from without")
		}
	}
}

func TestComparesChangeNothing(t *testing.T) {
	a, b := room(), room()
	macro.Same(a, b)
	macro.Param(a, "b")
	macro.Param(a, "wrong")
	if want := room(); !reflect.DeepEqual(a, want) || !reflect.DeepEqual(b, want) || !reflect.DeepEqual(whole(a.Body), whole(want.Body)) {
		t.Errorf("P9.4: what came in was changed: %+v, %+v", a, b)
	}
}
