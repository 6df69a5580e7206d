package subst

import (
	"slices"

	"oxbow/api"
	"oxbow/args"
	"oxbow/macro"
	"oxbow/tokens"
)

// ofBody is where a token comes from that is of no parameter.
const ofBody = -1

// body is a macro's Body, and what is put into it.
type body struct {
	toks   []api.Token
	places map[string]int // by the names of the parameters, as a long row of them is asked often; of a macro that is no Func none

	raw   [][]api.Token
	full  [][]api.Token
	sites []api.Site // of each token of the Body
}

// part is a paste, or what one thing of a Body became.
type part struct {
	paste bool
	span  api.Span // of the paste
	toks  []api.Token
	from  int // what the tokens came of
}

func bodyOf(m macro.Macro) body {
	b := body{toks: m.Body}
	if !m.Func {
		return b
	}
	b.places = map[string]int{}
	for i, name := range m.Params {
		if _, is := b.places[name]; !is {
			b.places[name] = i
		}
	}
	return b
}

// param is the place in Params of the parameter that stands at a place of the Body; -1, if none does, or there is no such place.
func (b *body) param(i int) int {
	if i < 0 || i >= len(b.toks) || b.toks[i].Kind != api.Ident {
		return -1
	}
	if place, is := b.places[b.toks[i].Text]; is {
		return place
	}
	return -1
}

// hash is whether one that makes a String stands at a place of the Body.
func (b *body) hash(i int) bool {
	return tokens.Hash(b.toks[i]) && b.param(i+1) >= 0
}

// paste is whether one stands at a place of the Body.
func (b *body) paste(i int) bool {
	return i >= 0 && i < len(b.toks) && tokens.Paste(b.toks[i])
}

// standsRaw is whether the parameter at a place of the Body does.
func (b *body) standsRaw(i int) bool {
	return i > 0 && b.hash(i-1) || b.paste(i-1) || b.paste(i+1)
}

// parts is what the things of the Body become, and the pastes between them.
func (b *body) parts() []part {
	var all []part
	for i := 0; i < len(b.toks); i++ {
		switch {
		case b.paste(i):
			all = append(all, part{paste: true, span: b.toks[i].Span})
		case b.hash(i):
			all = append(all, b.text(i))
			i++
		case b.param(i) >= 0:
			all = append(all, b.argument(i))
		default:
			all = append(all, b.own(b.toks[i], false))
		}
	}
	return all
}

// own is the part of one token that is the Body's.
func (b *body) own(t api.Token, made bool) part {
	t.Made, t.Sites = made, b.sites
	return part{toks: []api.Token{t}, from: ofBody}
}

// text is the part of a hash and its parameter.
func (b *body) text(i int) part {
	t := b.toks[i]
	t.Kind, t.Text = api.String, args.Stringize(of(b.raw, b.param(i+1)))
	return b.own(t, true)
}

// argument is the part of a parameter.
func (b *body) argument(i int) part {
	p := part{from: b.param(i)}
	if b.standsRaw(i) {
		p.toks = slices.Clone(of(b.raw, p.from))
	} else {
		p.toks = slices.Clone(of(b.full, p.from))
	}
	if len(p.toks) > 0 {
		p.toks[0].Space = b.toks[i].Space
	}
	return p
}

// of is the argument at a place; none, if there is none.
func of(list [][]api.Token, place int) []api.Token {
	if place >= len(list) {
		return nil
	}
	return list[place]
}
