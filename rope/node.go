package rope

import (
	"strings"
	"sync"
)

// A leaf has minLeaf to maxLeaf bytes; fewer than minLeaf only where it is the whole text, so that small edits don't leave a rope of crumbs.
const (
	maxLeaf = 256
	minLeaf = maxLeaf / 2
)

// node is a tree of text: a leaf has a text, a branch has two parts, neither nil, whose depths differ by at most one. A nil node is the empty text.
//
// Ropes that were made of one another share nodes: nothing of a node changes once it is made but breaks, which are counted under once, as the ropes may be asked in different goroutines.
type node struct {
	left, right *node
	text        string
	size        int
	depth       int
	once        sync.Once
	breaks      int
}

// leaf keeps a copy, as the text may be a small piece of something great.
func leaf(text string) *node {
	return &node{text: strings.Clone(text), size: len(text), depth: 1}
}

func branch(left, right *node) *node {
	return &node{
		left:  left,
		right: right,
		size:  left.size + right.size,
		depth: max(left.depth, right.depth) + 1,
	}
}

// grow makes the tree of a text. Halves keep it level: their lengths differ by at most one, so their depths do.
func grow(text string) *node {
	if text == "" {
		return nil
	}
	if len(text) <= maxLeaf {
		return leaf(text)
	}
	half := len(text) / 2
	return branch(grow(text[:half]), grow(text[half:]))
}

func (n *node) isLeaf() bool {
	return n.left == nil
}

func (n *node) length() int {
	if n == nil {
		return 0
	}
	return n.size
}

func (n *node) height() int {
	if n == nil {
		return 0
	}
	return n.depth
}

func (n *node) lineBreaks() int {
	if n == nil {
		return 0
	}
	n.once.Do(func() {
		if n.isLeaf() {
			n.breaks = strings.Count(n.text, "\n")
		} else {
			n.breaks = n.left.lineBreaks() + n.right.lineBreaks()
		}
	})
	return n.breaks
}

// breaksAhead is how many line breaks stand ahead of a place of the text.
func (n *node) breaksAhead(at int) int {
	if n == nil {
		return 0
	}
	count := 0
	for !n.isLeaf() {
		if at <= n.left.size {
			n = n.left
			continue
		}
		count += n.left.lineBreaks()
		at -= n.left.size
		n = n.right
	}
	return count + strings.Count(n.text[:at], "\n")
}

// behindBreak is the place right behind the line break of that number, counted from 1, which must be there; 0 is where the text begins.
func (n *node) behindBreak(number int) int {
	if number == 0 {
		return 0
	}
	place := 0
	for !n.isLeaf() {
		if ahead := n.left.lineBreaks(); number > ahead {
			number -= ahead
			place += n.left.size
			n = n.right
		} else {
			n = n.left
		}
	}
	inLeaf := 0
	for range number {
		inLeaf += strings.IndexByte(n.text[inLeaf:], '\n') + 1
	}
	return place + inLeaf
}

// write puts the bytes from and ahead of to, places of the text, into b.
func (n *node) write(b *strings.Builder, from, to int) {
	if n == nil {
		return
	}
	if n.isLeaf() {
		b.WriteString(n.text[from:to])
		return
	}
	middle := n.left.size
	if from < middle {
		n.left.write(b, from, min(to, middle))
	}
	if to > middle {
		n.right.write(b, max(from-middle, 0), to-middle)
	}
}
