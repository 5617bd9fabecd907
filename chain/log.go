package chain

import (
	"strconv"

	"trove/api"
	"trove/fault"
	"trove/wire"
)

// Log tells all that was done, as records.
func (c *Chain) Log() string { return string(c.log) }

// Open is the chain behind the records of a log, as long as they can be done, and the place behind the last
// of these. Of a log that is torn there is a chain, too.
func Open(log string) (*Chain, int, error) {
	var c *Chain
	end := 0
	for record, behind := range wire.Records(log) {
		next, err := redo(c, record)
		if err != nil {
			// Whatever it is, what is behind cannot be done.
			break
		}
		c, end = next, behind
	}
	if c == nil {
		return nil, 0, fault.At("beginning", fault.Form)
	}
	if end < len(log) {
		return c, end, fault.At("byte "+strconv.Itoa(end), fault.Torn)
	}
	return c, end, nil
}

// redo does what a record says. The first begins the chain; what cannot be done leaves it as it is.
func redo(c *Chain, record wire.Record) (*Chain, error) {
	if c == nil {
		return begin(record)
	}
	switch record.Letter {
	case wire.BlockLetter:
		return c, c.Submit(record.Content)
	case wire.FloorLetter:
		return c, c.pruneAgain(record.Content)
	}
	return c, fault.At("letter", fault.Form)
}

func begin(record wire.Record) (*Chain, error) {
	if record.Letter != wire.StartLetter {
		return nil, fault.At("letter", fault.Form)
	}
	// No digest stands in it, so it is read without a width.
	r := wire.NewReader(0, record.Content)
	start := r.Start(wire.Start{})
	if err := r.Done(); err != nil {
		return nil, fault.At("start", err)
	}
	return New(start.Width, start.Outs)
}

func (c *Chain) pruneAgain(content string) error {
	r := wire.NewReader(c.width, content)
	floor := r.Floor(0)
	if err := r.Done(); err != nil {
		return fault.At("floor", err)
	}
	return c.Prune(floor)
}

func (c *Chain) recordStart(outs []api.Out) error {
	w := wire.NewWriter(c.width)
	w.Start(wire.Start{Width: c.width, Outs: outs})
	content, err := w.Done()
	if err != nil {
		return fault.At("start", err)
	}
	return c.record(wire.StartLetter, content)
}

func (c *Chain) recordFloor(floor int) error {
	w := wire.NewWriter(c.width)
	w.Floor(floor)
	content, err := w.Done()
	if err != nil {
		return fault.At("floor", err)
	}
	return c.record(wire.FloorLetter, content)
}

// record puts down what is done. It comes ahead of doing it: what cannot be put down must change nothing.
func (c *Chain) record(letter, content string) error {
	w := wire.NewWriter(c.width)
	w.Record(wire.Record{Letter: letter, Content: content})
	text, err := w.Done()
	if err != nil {
		return fault.At("log", err)
	}
	c.log = append(c.log, text...)
	return nil
}
