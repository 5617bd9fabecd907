package tree

import (
	"iter"
	"slices"

	"trove/wire"
)

// Count tells how many different nodes trees have.
func Count(trees []Tree) int {
	// Not by their digests: different nodes may have the same, where the width is small.
	different := map[wire.Node]struct{}{}
	for n := range all(trees) {
		different[n] = struct{}{}
	}
	return len(different)
}

// Difference tells the proof of what is different in another tree.
func (t Tree) Difference(other Tree) (string, error) {
	nodes := t.inOneAlone(other)
	texts := make([]string, len(nodes))
	for i, n := range nodes {
		text, err := n.Text(t.width)
		if err != nil {
			return "", err
		}
		texts[i] = text
	}
	slices.Sort(texts)
	w := wire.NewWriter(t.width)
	w.Difference(texts)
	return w.Done()
}

// inOneAlone are the nodes that one of two trees has, but not the other; in no order. Trees are gone through
// whole, also where they share nodes: with a small width what they do not share may have the text of what they do.
func (t Tree) inOneAlone(other Tree) []wire.Node {
	const here, there = 1, 2
	where := map[wire.Node]int{}
	for n := range all([]Tree{t}) {
		where[n] |= here
	}
	for n := range all([]Tree{other}) {
		where[n] |= there
	}
	var alone []wire.Node
	for n, trees := range where {
		if trees != here|there {
			alone = append(alone, n)
		}
	}
	return alone
}

// all goes through the nodes of trees, each ahead of those below it; what trees share is passed but once.
func all(trees []Tree) iter.Seq[wire.Node] {
	return func(yield func(wire.Node) bool) {
		passed := map[*node]struct{}{}
		for _, t := range trees {
			if !t.pass(passed, yield) {
				return
			}
		}
	}
}

// pass tells whether more nodes are wanted, behind those of the tree.
func (t Tree) pass(passed map[*node]struct{}, yield func(wire.Node) bool) bool {
	if t.root == nil {
		return yield(wire.Node{Letter: wire.EmptyLetter})
	}
	return t.root.pass(passed, yield)
}

func (n *node) pass(passed map[*node]struct{}, yield func(wire.Node) bool) bool {
	if _, again := passed[n]; again {
		return true
	}
	passed[n] = struct{}{}
	if !yield(n.plain()) {
		return false
	}
	return n.isLeaf() || n.sides[0].pass(passed, yield) && n.sides[1].pass(passed, yield)
}
