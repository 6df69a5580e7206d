package macro

import (
	"oxbow/api"
	"oxbow/tokens"
)

// others is the parameter that a ... stands for.
const others = "__VA_ARGS__"

// Reserved is whether a name may be no macro's.
func Reserved(name string) bool {
	switch name {
	case "defined", "__FILE__", "__LINE__", others:
		return true
	}
	return false
}

// Parse reads one.
func Parse(rest []api.Token) (Macro, []api.Diag) {
	switch {
	case len(rest) == 0:
		return refuse(api.DName, api.Span{})
	case rest[0].Kind != api.Ident:
		return refuse(api.DName, rest[0].Span)
	case Reserved(rest[0].Text):
		return refuse(api.DDefine, rest[0].Span)
	}
	r := reader{m: Macro{Name: rest[0].Text, Span: rest[0].Span}, rest: rest[1:], places: map[string]int{}}
	if !r.head() {
		return refuse(api.DDefine, r.m.Span)
	}
	r.body()
	if place := r.misfit(); place >= 0 {
		return refuse(api.DDefine, r.m.Body[place].Span)
	}
	return r.m, nil
}

// refuse is no macro, and why.
func refuse(code int, span api.Span) (Macro, []api.Diag) {
	return Macro{}, []api.Diag{{Code: code, Span: span}}
}

// reader goes through what stands behind a macro's name.
type reader struct {
	m      Macro
	rest   []api.Token    // what has not been read
	places map[string]int // by the names of the parameters, as a long row of them is asked often
}

// head reads the parameters, if there is a row of them, and tells whether they fit.
func (r *reader) head() bool {
	if len(r.rest) == 0 || r.rest[0].Space || !r.take("(") {
		return true
	}
	r.m.Func = true
	if r.take(")") {
		return true
	}
	for {
		if r.take("...") {
			r.m.Variadic = true
			return r.add(others) && r.take(")")
		}
		if !r.param() {
			return false
		}
		if r.take(")") {
			return true
		}
		if !r.take(",") {
			return false
		}
	}
}

// take reads a sign, if it is the next one.
func (r *reader) take(sign string) bool {
	if len(r.rest) == 0 || !tokens.Punct(r.rest[0], sign) {
		return false
	}
	r.rest = r.rest[1:]
	return true
}

// param reads a parameter that has a name.
func (r *reader) param() bool {
	if len(r.rest) == 0 || r.rest[0].Kind != api.Ident || r.rest[0].Text == others {
		return false
	}
	name := r.rest[0].Text
	r.rest = r.rest[1:]
	return r.add(name)
}

// add puts a parameter behind the others, if none of them has its name.
func (r *reader) add(name string) bool {
	if _, is := r.places[name]; is {
		return false
	}
	r.places[name] = len(r.m.Params)
	r.m.Params = append(r.m.Params, name)
	return true
}

// body reads all that is left.
func (r *reader) body() {
	r.m.Body = tokens.Clone(r.rest)
	if len(r.m.Body) > 0 {
		r.m.Body[0].Space = false
	}
	r.rest = nil
}

// misfit is the place of the first token of the Body that may not stand there; -1, if there is none.
func (r *reader) misfit() int {
	for i, t := range r.m.Body {
		switch {
		case tokens.Paste(t) && (i == 0 || i == len(r.m.Body)-1),
			tokens.Hash(t) && r.m.Func && !r.isParam(i+1),
			t.Kind == api.Ident && t.Text == others && !r.m.Variadic:
			return i
		}
	}
	return -1
}

// isParam is whether a parameter stands at a place of the Body.
func (r *reader) isParam(place int) bool {
	if place >= len(r.m.Body) || r.m.Body[place].Kind != api.Ident {
		return false
	}
	_, is := r.places[r.m.Body[place].Text]
	return is
}
