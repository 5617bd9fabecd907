// Package proofs: what a proof says of a coin, to those who have a header alone.
package proofs

import (
	"iter"

	"trove/api"
	"trove/fault"
)

// Said is what a proof says of a coin.
type Said struct {
	Kind int
	Out  api.Out
}

// Verify tells what a proof says of a coin, by a header; or why it is none.
func Verify(width int, header string, coin api.Coin, text string) (Said, error) {
	q, err := ask(width, header, coin)
	if err != nil {
		return Said{}, err
	}
	a, err := q.check(text)
	return a.said, err
}

// Extract tells two different texts of one digest, which two proofs that contradict each other are made of.
func Extract(width int, header string, coin api.Coin, first, second string) (string, string, error) {
	q, err := ask(width, header, coin)
	if err != nil {
		return "", "", err
	}
	a, err := q.check(first)
	if err != nil {
		return "", "", fault.At("first proof", err)
	}
	b, err := q.check(second)
	if err != nil {
		return "", "", fault.At("second proof", err)
	}
	if a.said == b.said {
		return "", "", fault.At("proofs", fault.Alike)
	}
	return parting(a.nodes, b.nodes)
}

// parting tells the first two nodes that are different. Their digests are the same: the root's are, and of two
// nodes that are alike the coin's key leads to the same side.
func parting(a, b []string) (string, string, error) {
	for x, y := range together(a, b) {
		if x != y {
			return x, y, nil
		}
	}
	return "", "", fault.At("nodes", fault.Alike)
}

// together goes down two ways at once, as far as both go.
func together(a, b []string) iter.Seq2[string, string] {
	return func(yield func(string, string) bool) {
		for i := range min(len(a), len(b)) {
			if !yield(a[i], b[i]) {
				return
			}
		}
	}
}
