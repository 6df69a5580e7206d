package rope

import (
	"strings"
	"testing"

	"oxbow/api"
)

// check looks at what the comment of node says, below n.
func check(t *testing.T, n *node, whole bool) {
	t.Helper()
	if n.isLeaf() {
		if n.right != nil || n.depth != 1 || n.size != len(n.text) || n.size == 0 || n.size > maxLeaf || !whole && n.size < minLeaf {
			t.Fatalf("leaf of %d bytes, size %d, depth %d", len(n.text), n.size, n.depth)
		}
		return
	}
	apart := n.left.depth - n.right.depth
	if n.text != "" || n.size != n.left.size+n.right.size || n.depth != 1+max(n.left.depth, n.right.depth) || apart < -1 || apart > 1 {
		t.Fatalf("branch of %d and %d bytes: size %d, depths %d and %d", n.left.size, n.right.size, n.size, n.left.depth, n.right.depth)
	}
	check(t, n.left, false)
	check(t, n.right, false)
}

func checkRope(t *testing.T, r *Rope) {
	t.Helper()
	if r.root != nil {
		check(t, r.root, true)
	}
}

func TestTreeStaysLevel(t *testing.T) {
	for n := range 3 * maxLeaf * 4 {
		r, _ := New(strings.Repeat("x", n))
		checkRope(t, r)
	}
	seed := uint32(9)
	below := func(n int) int {
		seed = seed*1664525 + 1013904223
		return int(seed>>8) % n
	}
	r, _ := New("")
	for n := range 6000 {
		grows := n/1000%2 == 0
		if grows {
			r, _ = r.Insert(below(r.Len()+1), strings.Repeat("x", min(below(1+below(3000)), api.MaxFile-r.Len())))
		}
		if !grows || r.Len() > api.MaxFile-3000 {
			from := below(r.Len() + 1)
			r, _ = r.Delete(from, min(r.Len(), from+below(1+below(3000))))
		}
		checkRope(t, r)
	}
}

// TestJoinOfAnyDepths: trees of all depths that there are, either way round.
func TestJoinOfAnyDepths(t *testing.T) {
	for a := 1; a <= 1<<15; a *= 2 {
		for b := 1; b <= 1<<15; b *= 2 {
			left, right := grow(strings.Repeat("a", a+minLeaf)), grow(strings.Repeat("b", b+minLeaf))
			both := join(left, right)
			check(t, both, true)
			if most := max(left.depth, right.depth) + 1; both.depth > most {
				t.Fatalf("%d and %d bytes: depth %d, want at most %d", a, b, both.depth, most)
			}
		}
	}
}

func nodesOf(n *node, into map[*node]bool) map[*node]bool {
	if n != nil {
		into[n] = true
		nodesOf(n.left, into)
		nodesOf(n.right, into)
	}
	return into
}

// TestEditSharesTheRest: an edit of a long text makes few new nodes.
func TestEditSharesTheRest(t *testing.T) {
	r, _ := New(strings.Repeat("int x;\n", api.MaxFile/7-10))
	old := nodesOf(r.root, map[*node]bool{})
	for at := 0; at <= r.Len(); at += 97 {
		next, e := r.Insert(at, "y")
		if e != api.OK {
			t.Fatalf("Insert: error %d", e)
		}
		made := 0
		for n := range nodesOf(next.root, map[*node]bool{}) {
			if !old[n] {
				made++
			}
		}
		if most := 4 * r.Depth(); made > most {
			t.Fatalf("Insert(%d): %d new nodes of %d, want at most %d", at, made, len(old), most)
		}
	}
}

// TestLinesCountedOnce: what was counted is not counted again, not for another rope that has it too.
func TestLinesCountedOnce(t *testing.T) {
	r, _ := New(strings.Repeat("int x;\n", 1000))
	if got := r.Lines(); got != 1001 {
		t.Fatalf("Lines: got %d", got)
	}
	next, _ := r.Insert(0, "y")
	shared, old := 0, nodesOf(r.root, map[*node]bool{})
	for n := range nodesOf(next.root, map[*node]bool{}) {
		if !old[n] {
			continue
		}
		n.once.Do(func() { t.Error("a node that was counted counts anew") })
		shared++
	}
	if shared == 0 {
		t.Error("no node is shared")
	}
}
