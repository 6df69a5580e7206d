package groups_test

import (
	"cmp"
	"reflect"
	"slices"
	"testing"

	"oxbow/api"
	"oxbow/direct"
	"oxbow/groups"
	"oxbow/lex"
)

// piece is where a list lies, with its spare room.
type piece struct {
	from, to uintptr
}

func pieceOf(list any) piece {
	v := reflect.ValueOf(list)
	return piece{v.Pointer(), v.Pointer() + uintptr(v.Cap())*v.Type().Elem().Size()}
}

// pieces is those of Items, and of the lists within them.
func pieces(l []groups.Item) []piece {
	all := []piece{pieceOf(l)}
	for _, item := range l {
		all = append(all, pieceOf(item.Arms))
		for _, arm := range item.Arms {
			all = append(all, pieces(arm.Items)...)
		}
	}
	return all
}

// apart tells, if two pieces have memory in common.
func apart(t *testing.T, all []piece) {
	t.Helper()
	all = slices.DeleteFunc(all, func(p piece) bool { return p.from == p.to })
	slices.SortFunc(all, func(a, b piece) int { return cmp.Compare(a.from, b.from) })
	for i := 1; i < len(all); i++ {
		if all[i].from < all[i-1].to {
			t.Fatal("P8.3: two lists have memory in common")
		}
	}
}

// row has all that a condition may have, lines with nothing between, and spare room.
func row() []lex.Line {
	l := raws([]int{direct.Endif, -1, direct.Text, direct.If, direct.Text, direct.Define, direct.If, direct.Elif, direct.Null, direct.Endif, direct.Elif, direct.Text,
		direct.Text, direct.Text, direct.Else, direct.Ifdef, direct.Text, direct.Endif, direct.Else, direct.Text, direct.Endif, direct.Text, direct.Ifndef, direct.If, direct.Unknown})
	for i := range l {
		toks := append(make([]api.Token, 0, 9), l[i].Toks...)
		for n := range toks {
			toks[n].Sites = append(make([]api.Site, 0, 3), api.Site{Macro: "m"})
		}
		l[i].Toks = toks
	}
	return append(make([]lex.Line, 0, 50), l...)
}

// spoil changes all that lines have, and their spare room.
func spoil(l []lex.Line) {
	for i := range l {
		toks := l[i].Toks[:cap(l[i].Toks)]
		for n := range toks {
			toks[n] = api.Token{Kind: api.Other, Text: "wrong", Span: api.Span{File: "wrong"}}
		}
	}
	l = l[:cap(l)]
	for i := range l {
		l[i] = lex.Line{From: 99}
	}
}

func TestBuildNewMemory(t *testing.T) {
	l := row()
	items, diags := groups.Build(l)
	again, diagsAgain := groups.Build(l)
	if want := row(); !reflect.DeepEqual(l, want) || !reflect.DeepEqual(l[:cap(l)], want[:cap(want)]) {
		t.Error("P8.3: what came in was changed")
	}
	all := append(pieces(items), pieces(again)...)
	all = append(all, pieceOf(diags), pieceOf(diagsAgain), pieceOf(l))
	for _, line := range l {
		all = append(all, pieceOf(line.Toks))
	}
	apart(t, all)
	spoil(l)
	want, wantDiags := groups.Build(row())
	if !reflect.DeepEqual(items, want) || !reflect.DeepEqual(diags, wantDiags) {
		t.Error("P8.3: what came in is a part of what was answered")
	}
}

func TestFlatNewMemory(t *testing.T) {
	l, _ := groups.Build(row())
	l = append(make([]groups.Item, 0, 20), l...)
	want, _ := groups.Build(row())
	flat := groups.Flat(l)
	apart(t, append(pieces(l), pieceOf(flat), pieceOf(groups.Flat(l))))
	groups.Depth(l)
	if !reflect.DeepEqual(l, want) || !reflect.DeepEqual(l[len(l):cap(l)], make([]groups.Item, cap(l)-len(l))) {
		t.Error("P8.3: what came in was changed")
	}
	l[0].Line, l[1].Arms[0].Line = 99, 99
	if !reflect.DeepEqual(flat, groups.Flat(want)) {
		t.Errorf("P8.3: what came in is a part of what was answered: %v", flat)
	}
}
