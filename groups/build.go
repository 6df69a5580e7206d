package groups

import (
	"oxbow/api"
	"oxbow/direct"
	"oxbow/lex"
)

// builder puts lines together, one by one.
type builder struct {
	open  []condition // those that have not ended, each within the one ahead; the first one stands for none, and its arm has what is in no condition
	codes []int       // by the lines: what is told of each, at most one thing; 0 of nothing
}

// condition is one that has not ended.
type condition struct {
	item Item
	last bool // its arm is an else's
}

// over is a builder for so many lines.
func over(lines int) *builder {
	return &builder{open: []condition{{item: Item{Arms: make([]Arm, 1)}}}, codes: make([]int, lines)}
}

func (b *builder) take(place int, toks []api.Token) {
	switch kind := direct.Kind(toks); kind {
	case direct.If, direct.Ifdef, direct.Ifndef:
		b.begin(place)
	case direct.Elif, direct.Else:
		b.next(place, kind == direct.Else)
	case direct.Endif:
		b.close(place)
	default:
		if len(toks) > 0 {
			b.add(Item{Kind: kind, Line: place})
		}
	}
}

// begin tells that the condition does not end; what ends it takes that back.
func (b *builder) begin(place int) {
	b.codes[place] = api.DOpen
	b.open = append(b.open, condition{item: Item{Kind: direct.If, Line: place, Arms: []Arm{{Line: place}}}})
}

func (b *builder) next(place int, last bool) {
	c := b.inner()
	if !b.within() || c.last {
		b.codes[place] = api.DElse
		return
	}
	c.last = last
	c.item.Arms = append(c.item.Arms, Arm{Line: place})
}

func (b *builder) close(place int) {
	if !b.within() {
		b.codes[place] = api.DElse
		return
	}
	b.codes[b.inner().item.Line] = 0
	b.end()
}

// end puts the innermost condition into the one that it is in.
func (b *builder) end() {
	item := b.inner().item
	b.open = b.open[:len(b.open)-1]
	b.add(item)
}

func (b *builder) add(item Item) {
	items := b.items()
	*items = append(*items, item)
}

// items is those of the arm that the next line is in.
func (b *builder) items() *[]Item {
	arms := b.inner().item.Arms
	return &arms[len(arms)-1].Items
}

func (b *builder) inner() *condition {
	return &b.open[len(b.open)-1]
}

// within is whether the next line is in a condition.
func (b *builder) within() bool {
	return len(b.open) > 1
}

func (b *builder) diags(l []lex.Line) []api.Diag {
	var diags []api.Diag
	for place, code := range b.codes {
		if code != 0 {
			diags = append(diags, api.Diag{Code: code, Span: l[place].Toks[1].Span})
		}
	}
	return diags
}
