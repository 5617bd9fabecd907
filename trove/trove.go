// Package trove: a ledger of coins that proves what it says, to those who have its headers alone: see DOC.md.
package trove

import (
	"trove/api"
	"trove/chain"
	"trove/digest"
	"trove/proofs"
)

// Digest tells the first bytes of a text's SHA-256 (P3).
func Digest(width int, s string) (string, api.Errno) {
	if err := digest.CheckWidth(width); err != nil {
		return "", errno(err)
	}
	return digest.Of(width, s), api.OK
}

// Ledger is one ledger.
type Ledger struct {
	chain *chain.Chain
}

// New makes a ledger (P4).
func New(width int, outs []api.Out) (*Ledger, api.Errno) {
	c, err := chain.New(width, outs)
	if err != nil {
		return nil, errno(err)
	}
	return &Ledger{chain: c}, api.OK
}

// Tip tells the greatest height (P5).
func (l *Ledger) Tip() int { return l.chain.Tip() }

// Header tells a header (P5).
func (l *Ledger) Header(height int) (string, api.Errno) {
	header, err := l.chain.Header(height)
	return header, errno(err)
}

// Seal makes the next block of transactions (P6).
func (l *Ledger) Seal(txs []api.Tx) (string, api.Errno) {
	block, err := l.chain.Seal(txs)
	return block, errno(err)
}

// Submit takes a block (P7).
func (l *Ledger) Submit(block string) api.Errno { return errno(l.chain.Submit(block)) }

// Query proves what a coin is at a height (P8).
func (l *Ledger) Query(height int, c api.Coin) (string, api.Errno) {
	text, err := l.chain.Query(height, c)
	return text, errno(err)
}

// Verify tells what a proof says, by a header alone (P9).
func Verify(width int, header string, c api.Coin, proof string) (int, api.Out) {
	said, err := proofs.Verify(width, header, c, proof)
	if err != nil {
		return api.Bad, api.Out{}
	}
	return said.Kind, said.Out
}

// Extract makes two texts of one digest out of two proofs that contradict each other (P10).
func Extract(width int, header string, c api.Coin, p string, q string) (string, string, bool) {
	first, second, err := proofs.Extract(width, header, c, p, q)
	return first, second, err == nil
}

// Delta proves what is different at two heights (P11).
func (l *Ledger) Delta(a int, b int) (string, api.Errno) {
	text, err := l.chain.Delta(a, b)
	return text, errno(err)
}

// Differ tells what a proof of differences says, by two headers alone (P12).
func Differ(width int, before string, after string, proof string) ([]api.Change, bool) {
	changes, err := proofs.Differ(width, before, after, proof)
	return changes, err == nil
}

// Prune forgets the states below a height (P13).
func (l *Ledger) Prune(floor int) api.Errno { return errno(l.chain.Prune(floor)) }

// Stored tells how many nodes are kept (P13).
func (l *Ledger) Stored() int { return l.chain.Stored() }

// Log tells all that was done, as bytes (P14).
func (l *Ledger) Log() string { return l.chain.Log() }

// Open makes a ledger of a log's bytes, as far as they are whole (P15).
func Open(log string) (*Ledger, int, api.Errno) {
	c, place, err := chain.Open(log)
	if c == nil {
		return nil, 0, errno(err)
	}
	return &Ledger{chain: c}, place, errno(err)
}
