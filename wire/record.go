package wire

import (
	"iter"

	"trove/api"
	"trove/digest"
)

// The letters of the kinds of records.
const (
	StartLetter = "G"
	BlockLetter = "B"
	FloorLetter = "P"
)

// sumWidth is the width of the digest that ends a record, whatever the ledger's width is.
const sumWidth = 4

// Record is one thing that was done: the letter tells of which kind it is, the content what it was.
type Record struct {
	Letter  string
	Content string
}

// Start is what a ledger begins with: its width, and its first outputs.
type Start struct {
	Width int
	Outs  []api.Out
}

// Record is a record.
func (c *Coder) Record(r Record) Record {
	start := c.port.place()
	letter := c.Text(r.Letter, 1)
	content := c.Sized(r.Content)
	c.sum(start)
	return Record{Letter: letter, Content: content}
}

// sum is the digest of the bytes from a place on; any other one is refused.
func (c *Coder) sum(from int) {
	sum := digest.Of(sumWidth, c.port.since(from))
	if c.Text(sum, sumWidth) != sum {
		c.refuse("digest")
	}
}

// Start is the content of a record of the kind G.
func (c *Coder) Start(s Start) Start {
	// A number below 0 is a very great one here, which one byte does not hold.
	width := c.Number(uint64(s.Width), 1)
	outs := c.FirstOuts(s.Outs)
	return Start{Width: int(width), Outs: outs}
}

// Floor is the content of a record of the kind P.
func (c *Coder) Floor(floor int) int { return int(c.Number(uint64(floor), 4)) }

// Records goes through the records of a log, from its first byte on, as long as whole ones come; with each
// goes the place behind it.
func Records(log string) iter.Seq2[Record, int] {
	return func(yield func(Record, int) bool) {
		r := NewReader(sumWidth, log)
		for {
			record := r.Record(Record{})
			if r.err != nil || !yield(record, r.at) {
				return
			}
		}
	}
}
