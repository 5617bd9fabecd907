package trove_test

import (
	"math/rand"
	"slices"
	"testing"

	"trove/api"
)

// chance makes a tree of nodes: most of them are such as may be, and some are not.
func (g *grove) chance(r *rand.Rand, least, depth int) string {
	if depth == 0 || r.Intn(4) == 0 {
		return g.end(r)
	}
	b := least + r.Intn(3)
	if r.Intn(40) == 0 {
		b = r.Intn(8 * (g.width + 1))
	}
	b = min(b, 8*(g.width+1)-1)
	return g.branch(b, g.chance(r, b+1, depth-1), g.chance(r, b+1, depth-1))
}

func (g *grove) end(r *rand.Rand) string {
	switch r.Intn(10) {
	case 0:
		return g.none()
	case 1, 2, 3:
		return num(uint64(r.Intn(5)), g.width)
	}
	id := num(uint64(r.Intn(40)), g.width)
	return g.leaf(id+num(uint64(r.Intn(3)), 1), out(uint64(r.Intn(2)), 1))
}

// changed is a tree with some of its nodes others, down to a depth: nodes may lead to one another.
func (g *grove) changed(r *rand.Rand, digest string, depth int) string {
	at := slices.IndexFunc(g.nodes, func(text string) bool { return hash(g.width, text) == digest })
	if at < 0 || depth == 0 {
		return digest
	}
	text := g.nodes[at]
	if text[0] == 'L' && r.Intn(3) == 0 {
		return g.leaf(text[1:g.width+2], out(uint64(r.Intn(3)), 1))
	}
	if text[0] != 'N' || r.Intn(5) == 0 {
		if r.Intn(2) == 0 {
			return digest
		}
		id := num(uint64(r.Intn(40)), g.width)
		return g.leaf(id+num(uint64(r.Intn(3)), 1), out(uint64(r.Intn(2)), 1))
	}
	b := int(value(text[1:3]))
	return g.branch(b, g.changed(r, text[3:3+g.width], depth-1), g.changed(r, text[3+g.width:], depth-1))
}

// TestP12ForgedProofsAgainstTheModel takes trees that no ledger made; with a width of 1 their digests meet.
func TestP12ForgedProofsAgainstTheModel(t *testing.T) {
	said, changes := map[string]int{}, map[string]int{}
	for _, width := range []int{1, 1, 2, 3, 32} {
		for seed := range int64(3000) {
			r := rand.New(rand.NewSource(seed*100 + int64(width)))
			g := &grove{width: width}
			top := g.chance(r, 0, 1+r.Intn(4))
			other := top
			if r.Intn(4) > 0 {
				other = g.changed(r, top, 5)
			}
			nodes := slices.Clone(g.nodes)
			switch r.Intn(6) {
			case 0:
				if len(nodes) > 0 {
					nodes = slices.Delete(nodes, 0, 1)
				}
			case 1:
				nodes = append(nodes, leafText(num(77, width)+"\x00", out(r.Uint64(), 7)))
			}
			before, after := headerOf(width, top), headerOf(width, other)
			proof := bundled(nodes...)
			if r.Intn(6) == 0 && proof != "" {
				proof = spoiledProof(r, proof)
			}
			want, wrong := modelDiffer(width, before, after, proof)
			differs(t, "a forged proof", width, before, after, proof, wrong == "", want...)
			said[wrong]++
			for _, c := range want {
				changes[kindOf(c)]++
			}
		}
	}
	t.Logf("Differ: %v; the changes: %v", said, changes)
	for _, wrong := range []string{"", "bytes are missing", "no node", "not rising", "the same digest", "met twice", "a key twice", "not less", "not met", "left"} {
		if said[wrong] < 20 {
			t.Errorf("tried too seldom: %q", wrong)
		}
	}
	for _, kind := range []string{"comes", "goes", "other"} {
		if changes[kind] < 100 {
			t.Errorf("too few changes of the kind %s", kind)
		}
	}
}

func kindOf(c api.Change) string {
	switch {
	case c.Was && c.Is:
		return "other"
	case c.Was:
		return "goes"
	}
	return "comes"
}

// TestP12SpoiledProofsAgainstTheModel takes Delta's proofs with something changed, and other headers.
func TestP12SpoiledProofsAgainstTheModel(t *testing.T) {
	said := map[bool]int{}
	for _, width := range []int{1, 1, 2, 32} {
		for seed := range int64(4) {
			r := rand.New(rand.NewSource(seed*1000 + int64(width)))
			l, m := grown(t, width, r, 12)
			for range 400 {
				a, b := r.Intn(len(m.headers)), r.Intn(len(m.headers))
				p := checkDelta(t, l, m, a, b)
				if r.Intn(2) == 0 && p != "" {
					p = spoiledProof(r, p)
				}
				if r.Intn(3) == 0 {
					a, b = r.Intn(len(m.headers)), r.Intn(len(m.headers))
				}
				want, wrong := modelDiffer(width, m.headers[a], m.headers[b], p)
				differs(t, "a spoiled proof", width, m.headers[a], m.headers[b], p, wrong == "", want...)
				said[wrong == ""]++
			}
		}
	}
	if said[true] < 500 || said[false] < 500 {
		t.Errorf("not all was tried: %v", said)
	}
}
