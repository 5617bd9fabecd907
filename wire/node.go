package wire

import (
	"strconv"

	"trove/api"
	"trove/fault"
)

// EmptyText is the node of a tree of no coins.
const EmptyText = "E"

// Leaf is a node of the kind L: the key of a coin, and its output.
type Leaf struct {
	Key string
	Out api.Out
}

// Branch is a node of the kind N: the digests of those whose bit is 0, and of those whose bit is 1.
type Branch struct {
	Bit   int
	Sides [2]string
}

// Way is a way from a tree's root down: the branches that are passed, and the leaf at its end.
// It has no leaf, if there are no coins.
type Way struct {
	Steps   []Step
	HasLeaf bool
	Leaf    Leaf
}

// Step is a branch that is passed: its bit, and the digest of the side to which the way does not go.
type Step struct {
	Bit   int
	Other string
}

// LeafText is the text of a node of the kind L.
func LeafText(width int, leaf Leaf) (string, error) {
	w := NewWriter(width)
	w.Text("L", 1)
	w.Leaf(leaf)
	return w.Done()
}

// BranchText is the text of a node of the kind N.
func BranchText(width int, branch Branch) (string, error) {
	w := NewWriter(width)
	w.Text("N", 1)
	w.Branch(branch)
	return w.Done()
}

// Leaf is a key and its output.
func (c *Coder) Leaf(l Leaf) Leaf {
	key := c.key(l.Key)
	out := c.Out(l.Out)
	return Leaf{Key: key, Out: out}
}

// Branch is a bit and two digests.
func (c *Coder) Branch(b Branch) Branch {
	bit := c.bit(b.Bit)
	zero := c.digest(b.Sides[0])
	one := c.digest(b.Sides[1])
	return Branch{Bit: bit, Sides: [2]string{zero, one}}
}

// Way is a way from the root down.
func (c *Coder) Way(w Way) Way {
	steps := list(c, parts{"step", 2, 0, uint64(c.keyBits())}, w.Steps, c.step)
	c.rising(steps)
	if len(steps) == 0 && !c.more(w.HasLeaf) {
		return Way{}
	}
	return Way{Steps: steps, HasLeaf: true, Leaf: c.Leaf(w.Leaf)}
}

func (c *Coder) step(s Step) Step {
	bit := c.bit(s.Bit)
	other := c.digest(s.Other)
	return Step{Bit: bit, Other: other}
}

// rising refuses steps that do not go down: each bit must be above the one ahead of it.
func (c *Coder) rising(steps []Step) {
	for i := 1; i < len(steps) && c.err == nil; i++ {
		if steps[i].Bit <= steps[i-1].Bit {
			c.err = fault.At("step "+strconv.Itoa(i), fault.Form)
		}
	}
}

func (c *Coder) key(key string) string {
	key = c.Text(key, c.width+1)
	if c.err == nil && key[c.width] >= api.MaxOuts {
		c.err = fault.At("key", fault.Form)
	}
	return key
}

// bit is the number of one of a key's bits.
func (c *Coder) bit(b int) int {
	// A number below 0 is a very great one here, which two bytes do not hold.
	n := c.Number(uint64(b), 2)
	if n >= uint64(c.keyBits()) {
		c.err = fault.At("bit", fault.Form)
	}
	return int(n)
}

func (c *Coder) keyBits() int { return 8 * (c.width + 1) }
