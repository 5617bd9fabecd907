// Package chain: the blocks of a ledger, and the states behind them.
package chain

import (
	"strings"

	"trove/api"
	"trove/digest"
	"trove/fault"
	"trove/tree"
	"trove/wire"
)

// Chain is the blocks of one ledger.
type Chain struct {
	width int
	floor int
	// By the height: ids of headers may meet, where the width is small.
	blocks map[int]block
	log    []byte
}

// block is what is kept of a block; below the floor its header alone.
type block struct {
	header string
	state  tree.Tree
}

// New is a chain of the height 0.
func New(width int, outs []api.Out) (*Chain, error) {
	if err := digest.CheckWidth(width); err != nil {
		return nil, err
	}
	id, err := firstID(width, outs)
	if err != nil {
		return nil, err
	}
	state, err := receive(tree.Empty(width), id, outs)
	if err != nil {
		return nil, err
	}
	header, err := headerBytes(width, wire.Header{
		Height: 0,
		Ahead:  strings.Repeat("\x00", width),
		Body:   id,
		State:  state.Digest(),
	})
	if err != nil {
		return nil, err
	}
	c := &Chain{width: width, blocks: map[int]block{0: {header, state}}}
	if err := c.recordStart(outs); err != nil {
		return nil, err
	}
	return c, nil
}

// Tip tells the height of the last block.
func (c *Chain) Tip() int { return len(c.blocks) - 1 }

// Header tells the header of a height.
func (c *Chain) Header(height int) (string, error) {
	b, err := c.at(height)
	return b.header, err
}

// Query tells the proof of what a coin is at a height.
func (c *Chain) Query(height int, coin api.Coin) (string, error) {
	state, err := c.stateAt(height)
	if err != nil {
		return "", err
	}
	return state.Prove(coin)
}

// Delta tells the proof of what is different at two heights.
func (c *Chain) Delta(a, b int) (string, error) {
	first, err := c.stateAt(a)
	if err != nil {
		return "", err
	}
	second, err := c.stateAt(b)
	if err != nil {
		return "", err
	}
	return first.Difference(second)
}

// Prune forgets the states below a height.
func (c *Chain) Prune(floor int) error {
	if _, err := c.stateAt(floor); err != nil {
		return fault.At("floor", err)
	}
	if err := c.recordFloor(floor); err != nil {
		return err
	}
	for ; c.floor < floor; c.floor++ {
		c.blocks[c.floor] = block{header: c.blocks[c.floor].header}
	}
	return nil
}

// Stored tells how many different nodes the states that are kept have.
func (c *Chain) Stored() int {
	var kept []tree.Tree
	for height := c.floor; height <= c.Tip(); height++ {
		kept = append(kept, c.blocks[height].state)
	}
	return tree.Count(kept)
}

// stateAt tells the state of a height, as long as it is kept.
func (c *Chain) stateAt(height int) (tree.Tree, error) {
	if height < c.floor {
		return tree.Tree{}, fault.At("height", fault.Range)
	}
	b, err := c.at(height)
	return b.state, err
}

func (c *Chain) at(height int) (block, error) {
	b, ok := c.blocks[height]
	if !ok {
		return block{}, fault.At("height", fault.Range)
	}
	return b, nil
}

// Seal tells the next block with these transactions.
func (c *Chain) Seal(txs []api.Tx) (string, error) {
	w := wire.NewWriter(c.width)
	w.Body(txs)
	body, err := w.Done()
	if err != nil {
		return "", fault.At("body", err)
	}
	state, err := apply(c.width, c.blocks[c.Tip()].state, txs)
	if err != nil {
		return "", fault.At("body", err)
	}
	next := c.next(body)
	next.State = state.Digest()
	header, err := headerBytes(c.width, next)
	if err != nil {
		return "", fault.At("header", err)
	}
	return header + body, nil
}

// Submit takes a block.
func (c *Chain) Submit(text string) error {
	r := wire.NewReader(c.width, text)
	header := r.Header(wire.Header{})
	body := r.Rest()
	txs := r.Body(nil)
	if err := r.Done(); err != nil {
		return fault.At("block", err)
	}
	next := c.next(body)
	next.State = header.State
	if header != next {
		return fault.At("header", fault.Tip)
	}
	state, err := apply(c.width, c.blocks[c.Tip()].state, txs)
	if err != nil {
		return fault.At("body", err)
	}
	if header.State != state.Digest() {
		return fault.At("header", fault.Root)
	}
	if err := c.record(wire.BlockLetter, text); err != nil {
		return err
	}
	headerText := text[:len(text)-len(body)]
	// A copy, since nothing that is handed in may be kept.
	c.blocks[c.Tip()+1] = block{strings.Clone(headerText), state}
	return nil
}

// next tells the header that the next block must have, with this body; but for its state.
func (c *Chain) next(body string) wire.Header {
	tip := c.Tip()
	return wire.Header{
		Height: uint64(tip) + 1,
		Ahead:  digest.Of(c.width, "H"+c.blocks[tip].header),
		Body:   digest.Of(c.width, "B"+body),
	}
}

// firstID tells the id of the first outputs.
func firstID(width int, outs []api.Out) (string, error) {
	w := wire.NewWriter(width)
	w.FirstOuts(outs)
	text, err := w.Done()
	if err != nil {
		return "", err
	}
	return digest.Of(width, "G"+text), nil
}

func headerBytes(width int, h wire.Header) (string, error) {
	w := wire.NewWriter(width)
	w.Header(h)
	return w.Done()
}
