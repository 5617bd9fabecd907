package tree

import (
	"math/bits"

	"trove/api"
	"trove/digest"
	"trove/wire"
)

// node is a node of the kind L (it has a key and an output) or N (it has a bit and two sides).
type node struct {
	digest string
	key    string
	out    api.Out
	bit    int
	sides  [2]*node
}

func newLeaf(width int, key string, out api.Out) (*node, error) {
	w := wire.NewWriter(width)
	w.Text("L", 1)
	w.Text(key, width+1)
	w.Out(out)
	text, err := w.Done()
	if err != nil {
		return nil, err
	}
	return &node{digest: digest.Of(width, text), key: key, out: out}, nil
}

func newBranch(width, bit int, sides [2]*node) (*node, error) {
	w := wire.NewWriter(width)
	w.Text("N", 1)
	w.Number(uint64(bit), 2)
	w.Text(sides[0].digest, width)
	w.Text(sides[1].digest, width)
	text, err := w.Done()
	if err != nil {
		return nil, err
	}
	return &node{digest: digest.Of(width, text), bit: bit, sides: sides}, nil
}

func (n *node) isLeaf() bool { return n.sides[0] == nil }

// toward is the side to which a key's bit leads; below a leaf there is none.
func (n *node) toward(key string) *node { return n.sides[bitOf(key, n.bit)] }

// pairedWith tells the two sides of which one is a node at a bit, and this node the other.
func (n *node) pairedWith(one *node, at int) [2]*node {
	if at == 0 {
		return [2]*node{one, n}
	}
	return [2]*node{n, one}
}

// bitOf tells a bit of a key; bit 0 is the greatest of the first byte.
func bitOf(key string, bit int) int {
	return int(key[bit/8]>>(7-bit%8)) & 1
}

// firstDifference tells the first bit at which two keys of one length, which are not the same, are different.
func firstDifference(a, b string) int {
	i := 0
	for a[i] == b[i] {
		i++
	}
	return 8*i + bits.LeadingZeros8(a[i]^b[i])
}
