package proofs

import (
	"iter"
	"maps"
	"slices"

	"trove/api"
	"trove/digest"
	"trove/fault"
	"trove/keys"
	"trove/wire"
)

// Differ tells what a proof says is different between the states of two headers; or why it is none.
func Differ(width int, before, after, text string) ([]api.Change, error) {
	if err := digest.CheckWidth(width); err != nil {
		return nil, err
	}
	told, err := readNodes(width, text)
	if err != nil {
		return nil, fault.At("proof", err)
	}
	old, err := told.tree(before)
	if err != nil {
		return nil, fault.At("before", err)
	}
	fresh, err := told.tree(after)
	if err != nil {
		return nil, fault.At("after", err)
	}
	if err := told.check(old, fresh); err != nil {
		return nil, fault.At("proof", err)
	}
	return changes(old.outs, fresh.outs), nil
}

// nodes are those of a proof, by their digests.
type nodes struct {
	width int
	by    map[string]wire.Node
}

// view is what is seen of one tree by a proof.
type view struct {
	met  map[string]struct{} // by the digests
	outs map[string]api.Out  // by the keys
	left []string
}

// spot is where a digest stands in a tree: with its node, if it has one, and the bit of the branch above it.
type spot struct {
	digest string
	node   wire.Node
	isMet  bool
	above  int
}

func readNodes(width int, text string) (nodes, error) {
	r := wire.NewReader(width, text)
	texts := r.Difference(nil)
	if err := r.Done(); err != nil {
		return nodes{}, err
	}
	told := nodes{width: width, by: map[string]wire.Node{}}
	err := fault.Each("node", texts, told.add)
	return told, err
}

func (ns nodes) add(_ int, text string) error {
	r := wire.NewReader(ns.width, text)
	node := r.Node(wire.Node{})
	if err := r.Done(); err != nil {
		return err
	}
	d := digest.Of(ns.width, text)
	if has(ns.by, d) {
		return fault.At("digest", fault.Twice)
	}
	ns.by[d] = node
	return nil
}

// tree tells what is seen of the tree of a header's state.
func (ns nodes) tree(header string) (view, error) {
	root, err := stateOf(ns.width, header)
	if err != nil {
		return view{}, fault.At("header", err)
	}
	v := view{met: map[string]struct{}{}, outs: map[string]api.Out{}}
	for s := range ns.down(root) {
		if err := v.see(s); err != nil {
			return view{}, err
		}
	}
	return v, nil
}

// down goes through a tree from its root, each digest ahead of those below it. Nodes may lead to one another:
// then it goes on as long as more is wanted.
func (ns nodes) down(root string) iter.Seq[spot] {
	return func(yield func(spot) bool) {
		ahead := []spot{ns.spot(root, -1)}
		for len(ahead) > 0 {
			last := len(ahead) - 1
			s := ahead[last]
			ahead = ahead[:last]
			if !yield(s) {
				return
			}
			if s.node.Letter == wire.BranchLetter {
				sides := s.node.Branch.Sides
				ahead = append(ahead, ns.spot(sides[1], s.node.Branch.Bit), ns.spot(sides[0], s.node.Branch.Bit))
			}
		}
	}
}

func (ns nodes) spot(digest string, above int) spot {
	node, isMet := ns.by[digest]
	return spot{digest: digest, node: node, isMet: isMet, above: above}
}

// see takes down what is at a spot, and refuses what no tree has.
func (v *view) see(s spot) error {
	if !s.isMet {
		v.left = append(v.left, s.digest)
		return nil
	}
	if has(v.met, s.digest) {
		return fault.At("node", fault.Twice)
	}
	v.met[s.digest] = struct{}{}
	switch s.node.Letter {
	case wire.LeafLetter:
		return v.seeLeaf(s.node.Leaf)
	case wire.BranchLetter:
		return checkBelow(s.above, s.node.Branch.Bit)
	}
	return nil
}

func (v *view) seeLeaf(leaf wire.Leaf) error {
	if has(v.outs, leaf.Key) {
		return fault.At("key", fault.Twice)
	}
	v.outs[leaf.Key] = leaf.Out
	return nil
}

// checkBelow refuses a branch whose bit is not above that of the branch which it is below.
func checkBelow(above, bit int) error {
	if bit <= above {
		return fault.At("bit", fault.Form)
	}
	return nil
}

// check refuses nodes that are in neither tree, and trees that are different in what no node tells.
func (ns nodes) check(old, fresh view) error {
	for d := range ns.by {
		if !has(old.met, d) && !has(fresh.met, d) {
			return fault.At("node", fault.Unmet)
		}
	}
	if !slices.Equal(slices.Sorted(slices.Values(old.left)), slices.Sorted(slices.Values(fresh.left))) {
		return fault.At("what is left", fault.Unlike)
	}
	return nil
}

// changes tells what became of the coins of all keys that are not the same in both, by the keys.
func changes(old, fresh map[string]api.Out) []api.Change {
	every := maps.Clone(old)
	maps.Copy(every, fresh)
	var list []api.Change
	for _, key := range slices.Sorted(maps.Keys(every)) {
		was, is := has(old, key), has(fresh, key)
		if was && is && old[key] == fresh[key] {
			continue
		}
		list = append(list, api.Change{Coin: keys.Coin(key), Was: was, Is: is, Old: old[key], New: fresh[key]})
	}
	return list
}

func has[K comparable, V any](in map[K]V, key K) bool {
	_, ok := in[key]
	return ok
}
