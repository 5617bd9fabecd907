package tree

import (
	"trove/api"
	"trove/digest"
	"trove/keys"
	"trove/wire"
)

// node is a node of the kind L (it has a key and an output) or N (it has a bit and two sides).
type node struct {
	digest string
	key    string
	out    api.Out
	bit    int
	sides  [2]*node
}

func newLeaf(width int, key string, out api.Out) (*node, error) {
	return digested(width, node{key: key, out: out})
}

func newBranch(width, bit int, sides [2]*node) (*node, error) {
	return digested(width, node{bit: bit, sides: sides})
}

// digested is a node with its digest.
func digested(width int, n node) (*node, error) {
	text, err := n.plain().Text(width)
	if err != nil {
		return nil, err
	}
	n.digest = digest.Of(width, text)
	return &n, nil
}

// plain is the node by itself, with the digests of its sides.
func (n *node) plain() wire.Node {
	if n.isLeaf() {
		return wire.Leaf{Key: n.key, Out: n.out}.Node()
	}
	return wire.Branch{Bit: n.bit, Sides: [2]string{n.sides[0].digest, n.sides[1].digest}}.Node()
}

func (n *node) isLeaf() bool { return n.sides[0] == nil }

// toward is the side to which a key's bit leads; below a leaf there is none.
func (n *node) toward(key string) *node { return n.sides[keys.Bit(key, n.bit)] }

// besides is the side to which a key's bit does not lead.
func (n *node) besides(key string) *node { return n.sides[1-keys.Bit(key, n.bit)] }

// pairedWith tells the two sides of which one is a node at a bit, and this node the other.
func (n *node) pairedWith(one *node, at int) [2]*node {
	if at == 0 {
		return [2]*node{one, n}
	}
	return [2]*node{n, one}
}
