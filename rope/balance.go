package rope

// join is the tree of a's text and b's behind it. It goes down the deeper one's edge, so the depth grows by one at most.
func join(a, b *node) *node {
	switch {
	case a == nil:
		return b
	case b == nil:
		return a
	case a.depth > b.depth+1:
		return level(a.left, join(a.right, b))
	case b.depth > a.depth+1:
		return level(join(a, b.left), b.right)
	}
	return branch(a, b)
}

// level is the branch of two trees whose depths differ by at most two, turned where they differ by so much.
func level(a, b *node) *node {
	switch {
	case b.depth > a.depth+1:
		return turnLeft(a, b)
	case a.depth > b.depth+1:
		return turnRight(a, b)
	}
	return branch(a, b)
}

func turnLeft(a, b *node) *node {
	if b.left.depth > b.right.depth {
		return branch(branch(a, b.left.left), branch(b.left.right, b.right))
	}
	return branch(branch(a, b.left), b.right)
}

func turnRight(a, b *node) *node {
	if a.right.depth > a.left.depth {
		return branch(branch(a.left, a.right.left), branch(a.right.right, b))
	}
	return branch(a.left, branch(a.right, b))
}

// cut is a tree taken apart at a place: the whole leaves ahead of the leaf that has the place, that leaf's bytes ahead of the place and from it on, and the whole leaves behind.
type cut struct {
	ahead, behind *node
	head, tail    string
}

func cutAt(n *node, at int) cut {
	if n == nil {
		return cut{}
	}
	if n.isLeaf() {
		return cut{head: n.text[:at], tail: n.text[at:]}
	}
	if at < n.left.size {
		c := cutAt(n.left, at)
		c.behind = join(c.behind, n.right)
		return c
	}
	c := cutAt(n.right, at-n.left.size)
	c.ahead = join(n.left, c.ahead)
	return c
}

// weave is the tree of ahead's text, middle and behind's text. A middle that is too short for a leaf takes in the leaf next to it.
func weave(ahead *node, middle string, behind *node) *node {
	if len(middle) < minLeaf {
		next := cutAt(behind, 0)
		middle, behind = middle+next.tail, next.behind
	}
	if len(middle) < minLeaf {
		last := cutAt(ahead, ahead.length())
		middle, ahead = last.head+middle, last.ahead
	}
	return join(join(ahead, grow(middle)), behind)
}
