package macro

import (
	"maps"
	"slices"
)

// Table is macros. One that was made of another has the same map, and whoever writes first copies it; what is in it is never changed.
type Table struct {
	macros map[string]Macro
	shared bool // another table may have the map too
}

// New is none.
func New() *Table {
	return &Table{}
}

// Define defines one.
func (t *Table) Define(m Macro) bool {
	if t == nil {
		return false
	}
	elder, is := t.macros[m.Name]
	t.own()
	t.macros[m.Name] = clone(m)
	return !is || Same(elder, m)
}

// Undef takes one away.
func (t *Table) Undef(name string) bool {
	if t == nil {
		return false
	}
	if _, is := t.macros[name]; !is {
		return false
	}
	t.own()
	delete(t.macros, name)
	return true
}

// own makes the map one that no other table has, ahead of a write.
func (t *Table) own() {
	switch {
	case t.macros == nil:
		t.macros = map[string]Macro{}
	case t.shared:
		t.macros = maps.Clone(t.macros)
	}
	t.shared = false
}

// Get is one.
func (t *Table) Get(name string) (Macro, bool) {
	if t == nil {
		return Macro{}, false
	}
	m, is := t.macros[name]
	return clone(m), is
}

// Names is all of them.
func (t *Table) Names() []string {
	if t == nil {
		return nil
	}
	return slices.Sorted(maps.Keys(t.macros))
}

// Copy is another one.
func (t *Table) Copy() *Table {
	if t == nil {
		return nil
	}
	t.shared = true
	return &Table{macros: t.macros, shared: true}
}
