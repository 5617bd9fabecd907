package wire

import (
	"cmp"
	"strings"

	"trove/api"
)

// The letters of the kinds of nodes. The node of no coins is its letter alone.
const (
	EmptyLetter  = "E"
	LeafLetter   = "L"
	BranchLetter = "N"
)

// Node is a node of a tree: its letter tells which of the two others it has, if any. Nodes of one width
// are the same where their texts are.
type Node struct {
	Letter string
	Leaf   Leaf
	Branch Branch
}

// Leaf is a node of the kind L: the key of a coin, and its output.
type Leaf struct {
	Key string
	Out api.Out
}

// Branch is a node of the kind N: the digests of those whose bit is 0, and of those whose bit is 1.
type Branch struct {
	Bit   int
	Sides [2]string
}

// Way is a way from a tree's root down: the branches that are passed, and the leaf at its end.
// It has no leaf, if there are no coins.
type Way struct {
	Steps   []Step
	HasLeaf bool
	Leaf    Leaf
}

// Step is a branch that is passed: its bit, and the digest of the side to which the way does not go.
type Step struct {
	Bit   int
	Other string
}

// Node is the node of the kind L.
func (l Leaf) Node() Node { return Node{Letter: LeafLetter, Leaf: l} }

// Node is the node of the kind N.
func (b Branch) Node() Node { return Node{Letter: BranchLetter, Branch: b} }

// Text is the text of a node.
func (n Node) Text(width int) (string, error) {
	w := NewWriter(width)
	w.Node(n)
	return w.Done()
}

// Node is a node: its letter, and what is of this kind.
func (c *Coder) Node(n Node) Node {
	switch letter := c.Text(n.Letter, 1); letter {
	case EmptyLetter:
		return Node{Letter: EmptyLetter}
	case LeafLetter:
		return c.Leaf(n.Leaf).Node()
	case BranchLetter:
		return c.Branch(n.Branch).Node()
	}
	c.refuse("letter")
	return Node{}
}

// Leaf is a key and its output.
func (c *Coder) Leaf(l Leaf) Leaf {
	key := c.key(l.Key)
	out := c.Out(l.Out)
	return Leaf{Key: key, Out: out}
}

// Branch is a bit and two digests.
func (c *Coder) Branch(b Branch) Branch {
	bit := c.bit(b.Bit)
	zero := c.digest(b.Sides[0])
	one := c.digest(b.Sides[1])
	return Branch{Bit: bit, Sides: [2]string{zero, one}}
}

// Way is a way from the root down.
func (c *Coder) Way(w Way) Way {
	steps := list(c, parts{"step", 2, 0, uint64(c.keyBits())}, w.Steps, c.step)
	rising(c, "step", steps, byBits)
	if len(steps) == 0 && !c.more(w.HasLeaf) {
		return Way{}
	}
	return Way{Steps: steps, HasLeaf: true, Leaf: c.Leaf(w.Leaf)}
}

func (c *Coder) step(s Step) Step {
	bit := c.bit(s.Bit)
	other := c.digest(s.Other)
	return Step{Bit: bit, Other: other}
}

func byBits(a, b Step) int { return cmp.Compare(a.Bit, b.Bit) }

// Difference is the texts of nodes, each behind its length, to the end; they rise by their bytes.
func (c *Coder) Difference(texts []string) []string {
	texts = row(c, "node", texts, c.Sized)
	rising(c, "node", texts, strings.Compare)
	return texts
}

func (c *Coder) key(key string) string {
	key = c.Text(key, c.width+1)
	if c.err == nil && key[c.width] >= api.MaxOuts {
		c.refuse("key")
	}
	return key
}

// bit is the number of one of a key's bits.
func (c *Coder) bit(b int) int {
	// A number below 0 is a very great one here, which two bytes do not hold.
	n := c.Number(uint64(b), 2)
	if n >= uint64(c.keyBits()) {
		c.refuse("bit")
	}
	return int(n)
}

func (c *Coder) keyBits() int { return 8 * (c.width + 1) }
