package wire

import (
	"strconv"

	"trove/api"
	"trove/fault"
)

// Coder goes through the parts of things, in their order, by a port: so the form of each thing stands
// here once, for reading and for writing. Its methods answer the thing as the port knows it. Behind the
// first part that is wrong nothing is read or written any more, and an answer says nothing: Done tells.
type Coder struct {
	port  Port
	width int
	err   error
}

// Header is a header, part by part.
type Header struct {
	Height uint64
	Ahead  string
	Body   string
	State  string
}

// Number is a number in so many bytes.
func (c *Coder) Number(n uint64, size int) uint64 {
	if c.err != nil {
		return 0
	}
	n, c.err = c.port.number(n, size)
	return n
}

// Text is a text of so many bytes.
func (c *Coder) Text(s string, size int) string {
	if c.err != nil {
		return ""
	}
	s, c.err = c.port.text(s, size)
	return s
}

// Sized is a text behind its length.
func (c *Coder) Sized(s string) string {
	size := c.Number(uint64(len(s)), 2)
	return c.Text(s, int(size))
}

func (c *Coder) digest(s string) string { return c.Text(s, c.width) }

// Coin is a coin: its key.
func (c *Coder) Coin(coin api.Coin) api.Coin {
	tx := c.digest(coin.Tx)
	// A number below 0 is a very great one here, which no byte holds.
	n := c.Number(uint64(coin.N), 1)
	if n >= api.MaxOuts {
		c.refuse("number")
	}
	return api.Coin{Tx: tx, N: int(n)}
}

// Out is an output.
func (c *Coder) Out(out api.Out) api.Out {
	amount := c.Number(out.Amount, 8)
	owner := c.Number(uint64(out.Owner), 1)
	return api.Out{Amount: amount, Owner: uint8(owner)}
}

// Tx is a transaction.
func (c *Coder) Tx(tx api.Tx) api.Tx {
	ins := list(c, parts{"coin", 1, 1, api.MaxIns}, tx.Ins, c.Coin)
	outs := list(c, parts{"output", 1, 0, api.MaxOuts}, tx.Outs, c.Out)
	return api.Tx{Ins: ins, Outs: outs}
}

// FirstOuts are the first outputs of a ledger.
func (c *Coder) FirstOuts(outs []api.Out) []api.Out {
	return list(c, parts{"output", 1, 1, api.MaxOuts}, outs, c.Out)
}

// Body is the body of a block.
func (c *Coder) Body(txs []api.Tx) []api.Tx {
	return list(c, parts{"transaction", 1, 0, api.MaxTxs}, txs, c.Tx)
}

// Header is a header.
func (c *Coder) Header(h Header) Header {
	height := c.Number(h.Height, 4)
	ahead := c.digest(h.Ahead)
	body := c.digest(h.Body)
	state := c.digest(h.State)
	return Header{Height: height, Ahead: ahead, Body: body, State: state}
}

// refuse tells where something may not be; what was wrong ahead of it stays.
func (c *Coder) refuse(where string) {
	if c.err == nil {
		c.err = fault.At(where, fault.Form)
	}
}

// more is whether something comes behind; the port tells, since bytes that are missing are no fault here.
func (c *Coder) more(m bool) bool { return c.err == nil && c.port.more(m) }

// parts says of a list what its parts are, in how many bytes their number stands, and what this may be.
type parts struct {
	what        string
	size        int
	least, most uint64
}

// list is how many parts there are, and the parts. It answers a new list: a writer's is not written into.
func list[T any](c *Coder, of parts, items []T, part func(T) T) []T {
	count := c.Number(uint64(len(items)), of.size)
	if count < of.least || count > of.most {
		c.refuse("number of " + of.what + "s")
	}
	if c.err != nil {
		return nil
	}
	done := make([]T, count)
	copy(done, items)
	c.err = fault.Each(of.what, done, func(i int, p T) error {
		done[i] = part(p)
		return c.err
	})
	return done
}

// row is parts one behind the other, as many as there are to the end. It answers a new list, too.
func row[T any](c *Coder, what string, items []T, part func(T) T) []T {
	var done []T
	for i := 0; c.more(i < len(items)); i++ {
		var item T
		if i < len(items) {
			item = items[i]
		}
		done = append(done, part(item))
		if c.err != nil {
			c.err = fault.At(what+" "+strconv.Itoa(i), c.err)
		}
	}
	return done
}

// rising refuses a list of which a part is not above the one ahead of it.
func rising[T any](c *Coder, what string, list []T, compare func(a, b T) int) {
	for i := 1; i < len(list) && c.err == nil; i++ {
		if compare(list[i-1], list[i]) >= 0 {
			c.refuse(what + " " + strconv.Itoa(i))
		}
	}
}
