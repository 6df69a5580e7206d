package args_test

import (
	"reflect"
	"slices"
	"testing"

	"oxbow/api"
	"oxbow/args"
	"oxbow/macro"
)

// roomy is the tokens of a text, with spare room, that all have one list of Sites.
func roomy(t *testing.T, text string) []api.Token {
	t.Helper()
	sites := append(make([]api.Site, 0, 5), api.Site{Macro: "s", Name: api.Span{File: "g", From: 3, To: 4}}, api.Site{Made: true})
	l := append(make([]api.Token, 0, 40), line(t, text)...)
	for i := range l {
		l[i].Sites = sites
	}
	return l
}

// spoilTokens changes all that tokens have, and their spare room.
func spoilTokens(l []api.Token) {
	for i := range l {
		sites := l[i].Sites[:cap(l[i].Sites)]
		for n := range sites {
			sites[n] = api.Site{Macro: "wrong", Made: true}
		}
	}
	l = l[:cap(l)]
	for i := range l {
		l[i] = api.Token{Kind: 99, Text: "wrong", Sites: []api.Site{{Macro: "wrong"}}}
	}
}

// spoil changes all that lists have, and their spare room.
func spoil(list [][]api.Token) {
	for _, l := range list {
		spoilTokens(l)
	}
	list = list[:cap(list)]
	for i := range list {
		list[i] = []api.Token{{Text: "wrong"}}
	}
}

// whole is a list with its spare room.
func whole(l []api.Token) []api.Token {
	return l[:cap(l)]
}

// wholes is lists with their spare room, and that of the list of them.
func wholes(list [][]api.Token) [][]api.Token {
	out := slices.Clone(list[:cap(list)])
	for i := range out {
		out[i] = whole(out[i])
	}
	return out
}

var uses = []string{"", "a", "(a", "()", "(a)", "(a,b)", "(,)", "(a b, (c,d) ,,e) f g", "(w,x,y,z) v"}

func TestCollectNewMemory(t *testing.T) {
	for _, text := range uses {
		l, want := roomy(t, text), roomy(t, text)
		list, commas, _, _ := args.Collect(l)
		again, againCommas, _, _ := args.Collect(l)
		spoil(again)
		spoilTokens(againCommas)
		if !reflect.DeepEqual(whole(l), whole(want)) {
			t.Errorf("P10.4: Collect of %q: what came in was changed: %+v", text, whole(l))
		}
		spoilTokens(l)
		if now, nowCommas, _, _ := args.Collect(want); !sameLists(list, now) || !sameTokens(commas, nowCommas) {
			t.Errorf("P10.4: Collect of %q: what was answered is not of its own: %+v, %+v", text, list, commas)
		}
	}
}

// given is what a Fit is handed in: a macro with so many Params, lists and commas, all with spare room.
func given(t *testing.T, text string, params int, variadic bool) (macro.Macro, [][]api.Token, []api.Token) {
	t.Helper()
	list, commas, _, _ := args.Collect(roomy(t, text))
	all := append(make([][]api.Token, 0, 20), list...)
	for i := range all {
		all[i] = append(make([]api.Token, 0, 20), all[i]...)
	}
	commas = append(make([]api.Token, 0, 20), commas...)
	names := append(make([]string, 0, 20), []string{"a", "b", "c", "d", "e", "f"}[:params]...)
	return macro.Macro{Func: true, Variadic: variadic, Params: names, Body: roomy(t, "a b")}, all, commas
}

func TestFitNewMemory(t *testing.T) {
	for _, text := range uses {
		for params := range 7 {
			for _, variadic := range []bool{false, true} {
				m, list, commas := given(t, text, params, variadic)
				wantM, wantList, wantCommas := given(t, text, params, variadic)
				out, _ := args.Fit(m, list, commas)
				again, _ := args.Fit(m, list, commas)
				spoil(again)
				same := reflect.DeepEqual(m, wantM) && reflect.DeepEqual(whole(m.Body), whole(wantM.Body)) && slices.Equal(m.Params[:20], wantM.Params[:20])
				if !same || !reflect.DeepEqual(wholes(list), wholes(wantList)) || !reflect.DeepEqual(whole(commas), whole(wantCommas)) {
					t.Errorf("P10.4: Fit of %q, %d: what came in was changed: %+v, %+v, %+v", text, params, m, list, commas)
				}
				spoil(list)
				spoilTokens(commas)
				if now, _ := args.Fit(wantM, wantList, wantCommas); !sameLists(out, now) {
					t.Errorf("P10.4: Fit of %q, %d: what was answered is not of its own: %+v", text, params, out)
				}
			}
		}
	}
}

// shares is whether one of an answer's lists turns with another: each is spoiled in turn, and the others have to stand.
func shares(answer func() [][]api.Token) bool {
	for spoiled := range answer() {
		l, want := answer(), answer()
		_ = append(l[spoiled][:0], make([]api.Token, cap(l[spoiled]))...)
		for i := range l {
			if i != spoiled && !sameTokens(l[i], want[i]) {
				return true
			}
		}
	}
	return false
}

// sharesSites is as shares, of the lists of Sites.
func sharesSites(answer func() [][]api.Token) bool {
	sites := func() (all [][]api.Site) {
		for _, l := range answer() {
			for _, t := range l {
				all = append(all, t.Sites)
			}
		}
		return all
	}
	for spoiled := range sites() {
		l, want := sites(), sites()
		_ = append(l[spoiled][:0], make([]api.Site, cap(l[spoiled]))...)
		for i := range l {
			if i != spoiled && !slices.Equal(l[i], want[i]) {
				return true
			}
		}
	}
	return false
}

// TestListsOfTheirOwn: no two lists of one answer share memory, also where those that came in do.
func TestListsOfTheirOwn(t *testing.T) {
	for _, text := range uses {
		collected := func() [][]api.Token {
			list, commas, _, _ := args.Collect(roomy(t, text))
			return append(list, commas)
		}
		if shares(collected) || sharesSites(collected) {
			t.Errorf("P10.4: Collect of %q: two lists share memory", text)
		}
	}
	for params := range 7 {
		for _, variadic := range []bool{false, true} {
			fitted := func() [][]api.Token {
				one := roomy(t, "a b")
				out, _ := args.Fit(macro.Macro{Variadic: variadic, Params: make([]string, params)}, [][]api.Token{one, one, one[1:], one}, roomy(t, ",,,"))
				return out
			}
			if shares(fitted) || sharesSites(fitted) {
				t.Errorf("P10.4: Fit of %d Params: two lists share memory", params)
			}
		}
	}
}

func TestStringizeChangesNothing(t *testing.T) {
	l, want := roomy(t, `"a\n" 'b' c "d"`), roomy(t, `"a\n" 'b' c "d"`)
	args.Stringize(l)
	args.Stringize(l[1:3])
	if !reflect.DeepEqual(whole(l), whole(want)) {
		t.Errorf("P10.4: what came in was changed: %+v", whole(l))
	}
}
