package tokens_test

import (
	"reflect"
	"testing"

	"oxbow/api"
	"oxbow/tokens"
)

func TestClone(t *testing.T) {
	list := func() []api.Token {
		return []api.Token{{Kind: api.Ident, Text: "a", Space: true, Span: api.Span{File: "f", From: 1, To: 2}, Made: true, Sites: []api.Site{{Macro: "m"}, {Made: true}}}, {}}
	}
	l := list()
	got := tokens.Clone(l)
	if !reflect.DeepEqual(got, list()) {
		t.Errorf("got %+v, want %+v", got, list())
	}
	got[0].Text, got[0].Sites[1].Macro, got[1].Kind = "b", "n", 9
	if !reflect.DeepEqual(l, list()) {
		t.Errorf("the list was changed by its clone: %+v", l)
	}
	if len(tokens.Clone(nil)) != 0 || len(tokens.Clone([]api.Token{})) != 0 {
		t.Error("the clone of nothing is something")
	}
}

func TestSigns(t *testing.T) {
	texts := []string{"", "#", "%:", "##", "%:%:", "%", ":", "??=", "# ", "(", "...", "x"}
	for _, text := range texts {
		for kind := -1; kind <= 8; kind++ {
			x, punct := api.Token{Kind: kind, Text: text}, kind == api.Punct
			if got, want := tokens.Hash(x), punct && (text == "#" || text == "%:"); got != want {
				t.Errorf("Hash of %q of kind %d: got %v", text, kind, got)
			}
			if got, want := tokens.Paste(x), punct && (text == "##" || text == "%:%:"); got != want {
				t.Errorf("Paste of %q of kind %d: got %v", text, kind, got)
			}
			for _, other := range texts {
				if got, want := tokens.Punct(x, other), punct && text == other; got != want {
					t.Errorf("Punct of %q of kind %d, %q: got %v", text, kind, other, got)
				}
			}
		}
	}
}
