// Package tree: the tree of a state: its coins, each with an output, under one digest.
package tree

import (
	"iter"

	"trove/api"
	"trove/digest"
	"trove/fault"
	"trove/keys"
	"trove/wire"
)

// Tree is the tree of one state. It is never changed: what is put in or taken out makes another tree,
// which shares the nodes that are alike. So a state that is refused leaves nothing behind.
type Tree struct {
	width int
	root  *node
}

// Empty is the tree of no coins.
func Empty(width int) Tree { return Tree{width: width} }

// Digest tells the digest of the state.
func (t Tree) Digest() string {
	if t.root == nil {
		return digest.Of(t.width, wire.EmptyLetter)
	}
	return t.root.digest
}

// With is the tree with one more coin.
func (t Tree) With(coin api.Coin, out api.Out) (Tree, error) {
	key, err := keys.Of(t.width, coin)
	if err != nil {
		return Tree{}, err
	}
	leaf, err := newLeaf(t.width, key, out)
	if err != nil {
		return Tree{}, err
	}
	near := t.nearest(key)
	if near == nil {
		return Tree{t.width, leaf}, nil
	}
	if near.key == key {
		return Tree{}, fault.Exists
	}
	root, err := t.graft(t.root, leaf, keys.FirstDifference(near.key, key))
	return Tree{t.width, root}, err
}

// Without is the tree with one coin less, and the output of this coin.
func (t Tree) Without(coin api.Coin) (Tree, api.Out, error) {
	key, err := keys.Of(t.width, coin)
	if err != nil {
		return Tree{}, api.Out{}, err
	}
	near := t.nearest(key)
	if near == nil || near.key != key {
		return Tree{}, api.Out{}, fault.Input
	}
	root, err := t.cut(t.root, key)
	return Tree{t.width, root}, near.out, err
}

// Prove tells the proof of what a coin is, by the digest of the state.
func (t Tree) Prove(coin api.Coin) (string, error) {
	key, err := keys.Of(t.width, coin)
	if err != nil {
		return "", fault.At("coin", err)
	}
	w := wire.NewWriter(t.width)
	w.Way(t.wayTo(key))
	return w.Done()
}

// wayTo is the way down to which the bits of a key lead.
func (t Tree) wayTo(key string) wire.Way {
	var way wire.Way
	for n := range t.down(key) {
		if n.isLeaf() {
			way.HasLeaf, way.Leaf = true, wire.Leaf{Key: n.key, Out: n.out}
			break
		}
		way.Steps = append(way.Steps, wire.Step{Bit: n.bit, Other: n.besides(key).digest})
	}
	return way
}

// down goes from the root to a leaf, by the bits of a key.
func (t Tree) down(key string) iter.Seq[*node] {
	return func(yield func(*node) bool) {
		for n := t.root; n != nil && yield(n); {
			n = n.toward(key)
		}
	}
}

// nearest is the leaf to which the bits of a key lead: the only one that may have it.
func (t Tree) nearest(key string) *node {
	var last *node
	for n := range t.down(key) {
		last = n
	}
	return last
}

// graft puts a leaf in below a node, where its key is different for the first time, at a bit.
func (t Tree) graft(n, leaf *node, bit int) (*node, error) {
	if n.isLeaf() || n.bit > bit {
		return newBranch(t.width, bit, n.pairedWith(leaf, keys.Bit(leaf.key, bit)))
	}
	at := keys.Bit(leaf.key, n.bit)
	below, err := t.graft(n.sides[at], leaf, bit)
	if err != nil {
		return nil, err
	}
	return newBranch(t.width, n.bit, n.sides[1-at].pairedWith(below, at))
}

// cut takes the leaf of a key out below a node; where nothing is left, there is no node.
func (t Tree) cut(n *node, key string) (*node, error) {
	if n.isLeaf() {
		return nil, nil
	}
	at := keys.Bit(key, n.bit)
	other := n.sides[1-at]
	below, err := t.cut(n.sides[at], key)
	if err != nil || below == nil {
		return other, err
	}
	return newBranch(t.width, n.bit, other.pairedWith(below, at))
}
