package macro_test

import (
	"fmt"
	"math/rand"
	"slices"
	"strings"
	"sync"
	"testing"

	"oxbow/api"
	"oxbow/macro"
)

// parsed is the macro that a text tells.
func parsed(t *testing.T, text string) macro.Macro {
	t.Helper()
	m, diags := macro.Parse(line(t, text))
	if len(diags) > 0 {
		t.Fatalf("%q is no macro: %v", text, diags)
	}
	return m
}

func TestSame(t *testing.T) {
	for _, c := range []struct {
		a, b string
		want bool
	}{
		{"A", "A", true},
		{"A", "  A  ", true},
		{"A", "B", false},
		{"A", "a", false},
		{"A", "A()", false},
		{"A", "A b", false},
		{"A b", "A  b", true},
		{"A b", "A/**/b // c", true},
		{"A+b", "A +b", true},
		{"A b c", "A b /**/\tc", true},
		{"A b+c", "A b +c", false},
		{"A b+c", "A b+ c", false},
		{"A b", "A c", false},
		{"A b", "A b c", false},
		{"A b c", "A b", false},
		{"A b c", "A c b", false},
		{"A 'x'", "A \"x\"", false},
		{"A 1", "A 1.", false},
		{"A #", "A %:", false},
		{"A #", "A ??=", true},
		{"A b\\\nc", "A bc", true},
		{"F()", "F( )", true},
		{"F() b", "F (", false},
		{"F()", "F(a)", false},
		{"F(a) a", "F( a )a", true},
		{"F(a) a", "F(b) b", false},
		{"F(a) 1", "F(b) 1", false},
		{"F(a,b) 1", "F(b,a) 1", false},
		{"F(a,b) 1", "F(a) 1", false},
		{"F(a,b) 1", "F(a,b,c) 1", false},
		{"F(...) 1", "F() 1", false},
		{"F(...) 1", "F(a) 1", false},
		{"F(...) 1", "F(a,...) 1", false},
		{"F(a,...) 1", "F(a, ...) 1", true},
	} {
		a, b := parsed(t, c.a), parsed(t, c.b)
		if macro.Same(a, b) != c.want || macro.Same(b, a) != c.want {
			t.Errorf("P9.2: Same of %q and %q is not %v", c.a, c.b, c.want)
		}
	}
}

// full is a macro with all fields, as no Parse makes one.
func full() macro.Macro {
	return macro.Macro{
		Name: "F", Func: true, Variadic: true, Params: []string{"a", "b"},
		Body: []api.Token{
			{Kind: api.Ident, Text: "a", Space: true, Span: api.Span{File: "f", From: 1, To: 2}, Made: true, Sites: []api.Site{{Macro: "m", Made: true}, {}}},
			{Kind: 99, Text: "", Sites: []api.Site{{Name: api.Span{File: "k"}}}},
		},
		Span: api.Span{File: "g", From: 3, To: 4},
	}
}

// TestSameFields: which of the fields count.
func TestSameFields(t *testing.T) {
	for n, change := range []func(m *macro.Macro){
		func(m *macro.Macro) { m.Name = "G" },
		func(m *macro.Macro) { m.Func = false },
		func(m *macro.Macro) { m.Variadic = false },
		func(m *macro.Macro) { m.Params[1] = "c" },
		func(m *macro.Macro) { m.Params = m.Params[:1] },
		func(m *macro.Macro) { m.Params = append(m.Params, "") },
		func(m *macro.Macro) { m.Params = nil },
		func(m *macro.Macro) { m.Body[0].Kind = api.String },
		func(m *macro.Macro) { m.Body[1].Kind++ },
		func(m *macro.Macro) { m.Body[1].Text = "x" },
		func(m *macro.Macro) { m.Body[0].Space = false },
		func(m *macro.Macro) { m.Body[1].Space = true },
		func(m *macro.Macro) { m.Body = m.Body[:1] },
		func(m *macro.Macro) { m.Body = append(m.Body, api.Token{}) },
		func(m *macro.Macro) { m.Body = nil },
	} {
		other := full()
		change(&other)
		if macro.Same(full(), other) || macro.Same(other, full()) || !macro.Same(other, other) {
			t.Errorf("P9.2: Same does not tell change %d", n)
		}
	}
	for n, change := range []func(m *macro.Macro){
		func(m *macro.Macro) {},
		func(m *macro.Macro) { m.Span = api.Span{} },
		func(m *macro.Macro) { m.Body[0].Span = api.Span{} },
		func(m *macro.Macro) { m.Body[1].Made = true },
		func(m *macro.Macro) { m.Body[0].Sites = nil },
		func(m *macro.Macro) { m.Body[1].Sites[0].Macro = "x" },
	} {
		other := full()
		change(&other)
		if !macro.Same(full(), other) || !macro.Same(other, full()) {
			t.Errorf("P9.2: Same tells change %d, which counts for nothing", n)
		}
	}
	if !macro.Same(macro.Macro{}, macro.Macro{Params: []string{}, Body: []api.Token{}}) {
		t.Error("P9.2: nil and an empty list are not the Same")
	}
}

func TestParam(t *testing.T) {
	for _, c := range []struct {
		m    macro.Macro
		name string
		want int
	}{
		{parsed(t, "A a"), "a", -1},
		{parsed(t, "A a"), "A", -1},
		{parsed(t, "F() a"), "", -1},
		{parsed(t, "F(a,b,c) 1"), "a", 0},
		{parsed(t, "F(a,b,c) 1"), "b", 1},
		{parsed(t, "F(a,b,c) 1"), "c", 2},
		{parsed(t, "F(a,b,c) 1"), "d", -1},
		{parsed(t, "F(a,b,c) 1"), "F", -1},
		{parsed(t, "F(a,b,c) 1"), "B", -1},
		{parsed(t, "F(a,b,c) 1"), "__VA_ARGS__", -1},
		{parsed(t, "F(...) 1"), "__VA_ARGS__", 0},
		{parsed(t, "F(a,...) 1"), "__VA_ARGS__", 1},
		{parsed(t, "F(a,...) 1"), "...", -1},
		{macro.Macro{}, "", -1},
		{macro.Macro{Params: []string{"a", ""}}, "", 1},
		{macro.Macro{Params: []string{"a", "b", "a", "b"}}, "b", 1},
		{macro.Macro{Params: []string{"a", "a"}}, "a", 0},
		{macro.Macro{Variadic: true, Params: []string{"a"}}, "__VA_ARGS__", -1},
	} {
		if got := macro.Param(c.m, c.name); got != c.want {
			t.Errorf("P9.2: Param of %q in %q: got %d, want %d", c.name, c.m.Params, got, c.want)
		}
	}
}

// holds holds all that a table tells against what it has to have.
func holds(t *testing.T, x *macro.Table, want map[string]macro.Macro, asked ...string) {
	t.Helper()
	var names []string
	for name, m := range want {
		names = append(names, name)
		if got, ok := x.Get(name); !ok || !sameMacros(got, m) {
			t.Fatalf("P9.3: Get(%q): got %+v, %v, want %+v", name, got, ok, m)
		}
	}
	for _, name := range asked {
		if got, ok := x.Get(name); want[name].Name == "" && (ok || !sameMacros(got, macro.Macro{})) {
			t.Fatalf("P9.3: Get(%q): got %+v, %v, want none", name, got, ok)
		}
	}
	slices.SortFunc(names, strings.Compare)
	if got := x.Names(); !slices.Equal(got, names) {
		t.Fatalf("P9.3: Names: got %q, want %q", got, names)
	}
}

func TestTable(t *testing.T) {
	x := macro.New()
	holds(t, x, nil, "", "A")
	define := func(text string, want bool) {
		t.Helper()
		if got := x.Define(parsed(t, text)); got != want {
			t.Errorf("P9.3: Define of %q: got %v", text, got)
		}
	}
	undef := func(name string, want bool) {
		t.Helper()
		if got := x.Undef(name); got != want {
			t.Errorf("P9.3: Undef(%q): got %v", name, got)
		}
	}
	undef("A", false)
	define("B 1", true)
	define("A 2", true)
	holds(t, x, map[string]macro.Macro{"A": parsed(t, "A 2"), "B": parsed(t, "B 1")}, "", "C", "a")
	define("  B  1", true)
	holds(t, x, map[string]macro.Macro{"A": parsed(t, "A 2"), "B": parsed(t, "  B  1")})
	define("B 3", false)
	holds(t, x, map[string]macro.Macro{"A": parsed(t, "A 2"), "B": parsed(t, "B 3")})
	define("B 1", false)
	define("B 1", true)
	define("B() 1", false)
	define("B", false)
	undef("B", true)
	undef("B", false)
	holds(t, x, map[string]macro.Macro{"A": parsed(t, "A 2")}, "B")
	define("B 9", true)
	undef("A", true)
	undef("B", true)
	holds(t, x, nil, "A", "B")
	define("B 3", true)
}

func TestNamesByBytes(t *testing.T) {
	x := macro.New()
	names := []string{"b", "B", "_", "a", "Z", "aa", "a_", "A1", "A", "a1", "", "z\x80", "z\xff", "zz", "\u00e9", "\x00"}
	for _, name := range names {
		x.Define(macro.Macro{Name: name})
	}
	slices.Sort(names)
	if got := x.Names(); !slices.Equal(got, names) {
		t.Errorf("P9.3: Names: got %q, want %q", got, names)
	}
}

// TestAnyMacros: what no Parse makes is kept as it is.
func TestAnyMacros(t *testing.T) {
	x := macro.New()
	odd := []macro.Macro{full(), {}, {Name: "defined"}, {Name: "__VA_ARGS__", Params: []string{"a", "a"}}, {Name: "\xff", Variadic: true, Body: []api.Token{{Kind: api.Punct, Text: "##"}}}}
	want := map[string]macro.Macro{}
	for _, m := range odd {
		if !x.Define(m) || !x.Define(m) {
			t.Errorf("P9.3: Define of %+v tells false", m)
		}
		want[m.Name] = m
	}
	holds(t, x, want, "A")
	other := full()
	other.Body[0].Sites, other.Body[1].Span.To, other.Span.To = nil, 77, 78
	if !x.Define(other) {
		t.Error("P9.3: Define of the Same tells false")
	}
	want["F"] = other
	holds(t, x, want)
}

func TestNilTable(t *testing.T) {
	var none *macro.Table
	if m, ok := none.Get("A"); ok || !sameMacros(m, macro.Macro{}) {
		t.Errorf("P9.3: Get of a nil table: got %+v, %v", m, ok)
	}
	if none.Define(macro.Macro{}) || none.Define(full()) || none.Undef("") || none.Undef("F") || len(none.Names()) > 0 || none.Copy() != nil {
		t.Error("P9.3: a nil table has something")
	}
}

// TestTableOfNoNew: a Table that New did not make is one without macros.
func TestTableOfNoNew(t *testing.T) {
	x := new(macro.Table)
	holds(t, x, nil, "F")
	if x.Undef("F") {
		t.Error("P9.3: Undef of none")
	}
	y := x.Copy()
	if !y.Define(full()) || !x.Define(parsed(t, "A")) {
		t.Error("P9.3: Define tells false")
	}
	holds(t, x, map[string]macro.Macro{"A": parsed(t, "A")}, "F")
	holds(t, y, map[string]macro.Macro{"F": full()}, "A")
}

// TestCopies: each write, to whichever of several, is that one's alone.
func TestCopies(t *testing.T) {
	one, two, three := parsed(t, "A 1"), parsed(t, "B 2"), parsed(t, "A 3")
	for n, write := range []func(x *macro.Table){
		func(x *macro.Table) { x.Define(three) },
		func(x *macro.Table) { x.Undef("A"); x.Define(three) },
		func(x *macro.Table) { x.Undef("B"); x.Undef("A"); x.Define(three); x.Define(two) },
		func(x *macro.Table) { x.Copy().Define(two); x.Define(three) },
	} {
		before := map[string]macro.Macro{"A": one, "B": two}
		after := map[string]macro.Macro{"A": three, "B": two}
		for writer := range 4 {
			x := macro.New()
			x.Define(one)
			x.Define(two)
			tables := []*macro.Table{x, x.Copy(), x.Copy()}
			tables = append(tables, tables[1].Copy())
			write(tables[writer])
			for place, table := range tables {
				want := before
				if place == writer {
					want = after
				}
				holds(t, table, want)
			}
			if t.Failed() {
				t.Fatalf("P9.3: write %d to table %d is another one's too", n, writer)
			}
			late := tables[writer].Copy()
			for _, table := range tables {
				table.Undef("A")
				table.Undef("B")
			}
			holds(t, late, after)
			for _, table := range tables {
				holds(t, table, nil, "A", "B")
			}
		}
	}
	x := macro.New()
	if y := x.Copy(); y == nil || y == x {
		t.Error("P9.3: a Copy is not another one")
	}
}

// kept is a table, and what it has to have.
type kept struct {
	table *macro.Table
	want  map[string]macro.Macro
}

// step does something with one of the tables, and with what it has to have.
func (k kept) step(t *testing.T, random *rand.Rand) {
	name := fmt.Sprint("m", random.Intn(12))
	elder, is := k.want[name]
	if random.Intn(3) == 0 {
		if got := k.table.Undef(name); got != is {
			t.Fatalf("P9.3: Undef(%q): got %v", name, got)
		}
		delete(k.want, name)
		return
	}
	m := macro.Macro{Name: name, Span: api.Span{From: random.Int()}, Body: []api.Token{{Text: fmt.Sprint(random.Intn(3)), Span: api.Span{To: random.Int()}}}}
	same := !is || elder.Body[0].Text == m.Body[0].Text
	if got := k.table.Define(m); got != same {
		t.Fatalf("P9.3: Define(%+v) over %+v, %v: got %v", m, elder, is, got)
	}
	k.want[name] = m
}

// TestRandomSteps: many tables, copied from one another, against as many maps.
func TestRandomSteps(t *testing.T) {
	random := rand.New(rand.NewSource(93))
	all := []kept{{macro.New(), map[string]macro.Macro{}}}
	for range 20000 {
		k := all[random.Intn(len(all))]
		if random.Intn(4) > 0 {
			k.step(t, random)
		} else {
			want := map[string]macro.Macro{}
			for name, m := range k.want {
				want[name] = m
			}
			copied := kept{k.table.Copy(), want}
			if len(all) < 8 {
				all = append(all, copied)
			} else {
				all[random.Intn(len(all))] = copied
			}
		}
		for _, k := range all {
			holds(t, k.table, k.want)
		}
	}
}

// TestManyMacros: the map is copied when it is written behind a Copy, and not at each write, nor by a Copy: else this would not end.
func TestManyMacros(t *testing.T) {
	const many = 100000
	x := macro.New()
	for n := range many {
		x.Define(macro.Macro{Name: fmt.Sprint("m", n)})
	}
	y := x
	for range many {
		y = y.Copy()
	}
	y.Undef("m7")
	for n := range many {
		if got := y.Undef(fmt.Sprint("m", n)); got != (n != 7) {
			t.Fatalf("P9.3: Undef of m%d: got %v", n, got)
		}
	}
	if len(y.Names()) > 0 || len(x.Names()) != many {
		t.Errorf("P9.3: %d, and %d are there", len(y.Names()), len(x.Names()))
	}
}

// TestOneGoroutineEach: tables that were made of one another may be used by a goroutine each.
func TestOneGoroutineEach(t *testing.T) {
	x := macro.New()
	x.Define(full())
	var wait sync.WaitGroup
	for n := range 8 {
		mine, want := x.Copy(), map[string]macro.Macro{"F": full()}
		wait.Go(func() {
			for round := range 100 {
				m := macro.Macro{Name: fmt.Sprint("m", n, round)}
				mine.Define(m)
				want[m.Name] = m
				mine = mine.Copy()
				if got := mine.Names(); len(got) != len(want) {
					t.Errorf("P9.3: %d names, want %d", len(got), len(want))
				}
				mine.Get("F")
			}
		})
	}
	x.Undef("F")
	wait.Wait()
	holds(t, x, nil, "F", "m00")
}
