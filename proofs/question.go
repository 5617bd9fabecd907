package proofs

import (
	"iter"
	"slices"

	"trove/api"
	"trove/digest"
	"trove/fault"
	"trove/keys"
	"trove/wire"
)

// question is what a proof must answer: what the coin of a key is, by the digest of a state.
type question struct {
	width int
	state string
	key   string
}

// answer is a proof that holds: what it says, and the texts of its nodes, from the root down.
type answer struct {
	said  Said
	nodes []string
}

func ask(width int, header string, coin api.Coin) (question, error) {
	if err := digest.CheckWidth(width); err != nil {
		return question{}, err
	}
	state, err := stateOf(width, header)
	if err != nil {
		return question{}, fault.At("header", err)
	}
	key, err := keys.Of(width, coin)
	if err != nil {
		return question{}, fault.At("coin", err)
	}
	return question{width: width, state: state, key: key}, nil
}

// stateOf tells a header's digest of the state.
func stateOf(width int, header string) (string, error) {
	r := wire.NewReader(width, header)
	h := r.Header(wire.Header{})
	return h.State, r.Done()
}

// check reads a proof, and refuses one that does not hold.
func (q question) check(text string) (answer, error) {
	r := wire.NewReader(q.width, text)
	way := r.Way(wire.Way{})
	if err := r.Done(); err != nil {
		return answer{}, fault.At("proof", err)
	}
	if err := q.checkBits(way); err != nil {
		return answer{}, err
	}
	nodes, err := q.nodes(way)
	if err != nil {
		return answer{}, err
	}
	if digest.Of(q.width, nodes[0]) != q.state {
		return answer{}, fault.At("proof", fault.Root)
	}
	return answer{said: q.saidBy(way), nodes: nodes}, nil
}

// checkBits refuses a way that does not go where the key leads.
func (q question) checkBits(way wire.Way) error {
	return fault.Each("step", way.Steps, func(_ int, s wire.Step) error {
		if keys.Bit(q.key, s.Bit) != keys.Bit(way.Leaf.Key, s.Bit) {
			return fault.Astray
		}
		return nil
	})
}

func (q question) saidBy(way wire.Way) Said {
	if way.HasLeaf && way.Leaf.Key == q.key {
		return Said{Kind: api.There, Out: way.Leaf.Out}
	}
	return Said{Kind: api.Absent}
}

// nodes are the texts of a way's nodes, from the root down.
func (q question) nodes(way wire.Way) ([]string, error) {
	var texts []string
	for text, err := range q.up(way) {
		if err != nil {
			return nil, err
		}
		texts = append(texts, text)
	}
	slices.Reverse(texts)
	return texts, nil
}

// up goes from a way's end to the root, since a branch can be told only by the digest of what is below it.
func (q question) up(way wire.Way) iter.Seq2[string, error] {
	return func(yield func(string, error) bool) {
		text, err := q.end(way)
		for i := len(way.Steps) - 1; yield(text, err) && err == nil && i >= 0; i-- {
			text, err = q.above(text, way.Steps[i], way.Leaf.Key)
		}
	}
}

func (q question) end(way wire.Way) (string, error) {
	if !way.HasLeaf {
		return wire.EmptyLetter, nil
	}
	return way.Leaf.Node().Text(q.width)
}

// above is the text of the branch whose one side, to which a key leads, is the node of a text.
func (q question) above(text string, step wire.Step, key string) (string, error) {
	sides := [2]string{step.Other, step.Other}
	sides[keys.Bit(key, step.Bit)] = digest.Of(q.width, text)
	return wire.Branch{Bit: step.Bit, Sides: sides}.Node().Text(q.width)
}
