package groups_test

import (
	"fmt"
	"math/rand"
	"reflect"
	"testing"

	"oxbow/api"
	"oxbow/direct"
	"oxbow/groups"
	"oxbow/lex"
)

// span is the Span of a token of a line; each line has a file of its own.
func span(place, token int) api.Span {
	return api.Span{File: fmt.Sprint("f", place), From: 7 - place*10 + token, To: 9 - place*10 + token}
}

// raw is a line of a kind; of -1 one without tokens.
func raw(place, kind int) lex.Line {
	texts := []string{"#", direct.Word(kind), "A"}
	switch kind {
	case -1:
		texts = nil
	case direct.Text:
		texts[0] = "x"
	case direct.Null:
		texts = texts[:1]
	case direct.Unknown:
		texts[1] = "x"
	}
	var toks []api.Token
	for n, text := range texts {
		toks = append(toks, api.Token{Kind: api.Ident, Text: text, Span: span(place, n)})
	}
	if len(toks) > 0 && toks[0].Text == "#" {
		toks[0].Kind = api.Punct
	}
	return lex.Line{Toks: toks, From: place, To: place + 1}
}

func raws(kinds []int) []lex.Line {
	var l []lex.Line
	for place, kind := range kinds {
		l = append(l, raw(place, kind))
	}
	return l
}

// model is Build by recursion, over kinds as raw has them.
type model struct {
	kinds []int
	at    int
	codes map[int]int
}

// modelOf is what Build has to tell of raws(kinds).
func modelOf(kinds []int) ([]groups.Item, []api.Diag) {
	m := &model{kinds: kinds, codes: map[int]int{}}
	items := m.items()
	for m.at < len(kinds) {
		m.codes[m.at] = api.DElse
		m.at++
		items = append(items, m.items()...)
	}
	var diags []api.Diag
	for place := range kinds {
		if m.codes[place] != 0 {
			diags = append(diags, api.Diag{Code: m.codes[place], Span: span(place, 1)})
		}
	}
	return items, diags
}

// items is those ahead of the next elif, else or endif that is in no condition which begins among them.
func (m *model) items() (items []groups.Item) {
	for ; m.at < len(m.kinds); m.at++ {
		switch kind := m.kinds[m.at]; kind {
		case direct.If, direct.Ifdef, direct.Ifndef:
			items = append(items, m.condition())
			m.at--
		case direct.Elif, direct.Else, direct.Endif:
			return
		case -1:
		default:
			items = append(items, groups.Item{Kind: kind, Line: m.at})
		}
	}
	return
}

func (m *model) condition() groups.Item {
	item := groups.Item{Kind: 2, Line: m.at, Arms: []groups.Arm{{Line: m.at}}}
	m.at++
	for last := false; ; m.at++ {
		arm := &item.Arms[len(item.Arms)-1]
		arm.Items = append(arm.Items, m.items()...)
		switch {
		case m.at == len(m.kinds):
			m.codes[item.Line] = api.DOpen
			return item
		case m.kinds[m.at] == direct.Endif:
			m.at++
			return item
		case last:
			m.codes[m.at] = api.DElse
		default:
			last = m.kinds[m.at] == direct.Else
			item.Arms = append(item.Arms, groups.Arm{Line: m.at})
		}
	}
}

func flatModel(l []groups.Item) (lines []int) {
	for _, item := range l {
		if len(item.Arms) == 0 {
			lines = append(lines, item.Line)
		}
		for _, arm := range item.Arms {
			lines = append(append(lines, arm.Line), flatModel(arm.Items)...)
		}
	}
	return
}

func depthModel(l []groups.Item) (depth int) {
	for _, item := range l {
		for _, arm := range item.Arms {
			depth = max(depth, 1+depthModel(arm.Items))
		}
	}
	return
}

// hold holds what is told of the kinds against the models.
func hold(t *testing.T, kinds []int) {
	t.Helper()
	items, diags := groups.Build(raws(kinds))
	wantItems, wantDiags := modelOf(kinds)
	if !reflect.DeepEqual(items, wantItems) && len(items)+len(wantItems) > 0 {
		t.Fatalf("P8.1: %v:\n got %+v\nwant %+v", kinds, items, wantItems)
	}
	if !reflect.DeepEqual(diags, wantDiags) && len(diags)+len(wantDiags) > 0 {
		t.Fatalf("P8.1: %v: diagnostics:\n got %+v\nwant %+v", kinds, diags, wantDiags)
	}
	flat := groups.Flat(items)
	if want := flatModel(wantItems); !reflect.DeepEqual(flat, want) && len(flat)+len(want) > 0 {
		t.Fatalf("P8.2: Flat of %+v: got %v, want %v", items, flat, want)
	}
	if got, want := groups.Depth(items), depthModel(wantItems); got != want {
		t.Fatalf("P8.2: Depth of %+v: got %d, want %d", items, got, want)
	}
	holdLines(t, kinds, flat, diags)
}

// holdLines: each line is told by Flat in its order, or it is left out, for what it is.
func holdLines(t *testing.T, kinds, flat []int, diags []api.Diag) {
	t.Helper()
	outOfPlace := map[string]bool{}
	for _, d := range diags {
		if d.Code == api.DElse {
			outOfPlace[d.Span.File] = true
		}
	}
	next := 0
	for place, kind := range kinds {
		in := next < len(flat) && flat[next] == place
		if in {
			next++
		}
		if out := kind == -1 || kind == direct.Endif || outOfPlace[span(place, 1).File]; in == out {
			t.Fatalf("P8.3: %v: line %d is in %v: %v", kinds, place, flat, in)
		}
	}
	if next != len(flat) {
		t.Fatalf("P8.3: %v: lines %v", kinds, flat)
	}
}

// short is all rows of so many of some kinds.
func short(n int, kinds []int, do func(row []int)) {
	row := make([]int, n)
	var fill func(at int)
	fill = func(at int) {
		if at == n {
			do(row)
			return
		}
		for _, kind := range kinds {
			row[at] = kind
			fill(at + 1)
		}
	}
	fill(0)
}

func TestShortRows(t *testing.T) {
	most := 6
	if testing.Short() {
		most = 4
	}
	for n := range most + 1 {
		short(n, []int{direct.If, direct.Elif, direct.Else, direct.Endif, direct.Text, -1}, func(row []int) { hold(t, row) })
	}
	for n := range 9 {
		short(n, []int{direct.Ifndef, direct.Else, direct.Endif}, func(row []int) { hold(t, row) })
	}
	every := []int{-1}
	for kind := direct.Text; kind <= direct.Unknown; kind++ {
		every = append(every, kind)
	}
	for n := range 4 {
		short(n, every, func(row []int) { hold(t, row) })
	}
}

func TestLongRows(t *testing.T) {
	random := rand.New(rand.NewSource(8))
	for n := range 3000 {
		row := make([]int, random.Intn(200))
		for i := range row {
			row[i] = random.Intn(direct.Unknown+2) - 1
			if random.Intn(3) > 0 {
				row[i] = []int{direct.If, direct.Ifdef, direct.Elif, direct.Else, direct.Endif, direct.Endif}[random.Intn(6-n%2)]
			}
		}
		hold(t, row)
	}
}

// items is raw Items, as deep as may be.
func items(random *rand.Rand, deep int) (l []groups.Item) {
	for range random.Intn(4) {
		item := groups.Item{Kind: random.Intn(20) - 2, Line: random.Intn(40) - 10}
		for range random.Intn(4) {
			arm := groups.Arm{Line: random.Intn(40) - 10}
			if deep > 0 {
				arm.Items = items(random, deep-1)
			}
			item.Arms = append(item.Arms, arm)
		}
		l = append(l, item)
	}
	return
}

func TestAnyItems(t *testing.T) {
	random := rand.New(rand.NewSource(82))
	for n := range 5000 {
		l := items(random, n%5)
		if got, want := groups.Flat(l), flatModel(l); !reflect.DeepEqual(got, want) && len(got)+len(want) > 0 {
			t.Fatalf("P8.2: Flat of %+v:\n got %v\nwant %v", l, got, want)
		}
		if got, want := groups.Depth(l), depthModel(l); got != want {
			t.Fatalf("P8.2: Depth of %+v: got %d, want %d", l, got, want)
		}
	}
}
