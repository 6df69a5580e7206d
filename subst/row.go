package subst

import (
	"oxbow/api"
	"oxbow/lex"
	"oxbow/tokens"
)

// row is what came of the parts so far.
type row struct {
	toks  []api.Token
	from  []int
	diags []api.Diag

	ahead   int      // where in it begins what came of the thing ahead
	pasting bool     // a paste waits for the thing behind it
	span    api.Span // of that paste

	// The Text of the last token, if Paste made that: of a long row of pastes it is put together once, and not at each one.
	text []byte
}

// put is the next part's.
func (r *row) put(p part) {
	switch {
	case p.paste:
		r.pasting, r.span = true, p.span
		return
	case !r.pasting:
		r.ahead = len(r.toks)
	case r.ahead < len(r.toks) && len(p.toks) > 0:
		if r.grow(p.toks[0]) {
			p.toks = p.toks[1:]
		} else {
			r.diags = append(r.diags, api.Diag{Code: api.DPaste, Span: r.span})
		}
	}
	r.pasting = false
	r.add(p)
}

// add puts the tokens of a part behind the others.
func (r *row) add(p part) {
	for _, t := range p.toks {
		r.settle()
		r.toks, r.from = append(r.toks, t), append(r.from, p.from)
	}
}

// grow makes the last token and the one behind it one, if they are one.
func (r *row) grow(t api.Token) bool {
	end := len(r.toks) - 1
	if len(r.text) > 0 && lex.Grows(r.toks[end].Kind, r.text[len(r.text)-1], t.Text) {
		r.text = append(r.text, t.Text...)
		return true
	}
	r.settle()
	made, ok := joined(r.toks[end], t)
	if ok {
		r.toks[end], r.from[end], r.text = made, ofBody, []byte(made.Text)
	}
	return ok
}

// settle gives the last token its Text, where it has grown.
func (r *row) settle() {
	if len(r.text) > 0 {
		r.toks[len(r.toks)-1].Text = string(r.text)
		r.text = nil
	}
}

// ended is what came of all parts, in new memory.
func (r *row) ended() ([]api.Token, []int, []api.Diag) {
	r.settle()
	return tokens.Clone(r.toks), r.from, r.diags
}
