package trove_test

import (
	"maps"
	"slices"
	"strings"

	"trove/api"
)

// texts are the nodes of a state's tree, with how often each is there.
func texts(width int, state map[string]api.Out) map[string]int {
	if len(state) == 0 {
		return map[string]int{"E": 1}
	}
	if len(state) == 1 {
		for k, o := range state {
			return map[string]int{leafText(k, o): 1}
		}
	}
	b, sides := split(state)
	all := texts(width, sides[0])
	for text, n := range texts(width, sides[1]) {
		all[text] += n
	}
	all[branchText(b, root(width, sides[0]), root(width, sides[1]))]++
	return all
}

func sized(text string) string { return num(uint64(len(text)), 2) + text }

// bundled is the proof of some nodes, put in order.
func bundled(nodes ...string) string {
	var s strings.Builder
	for _, text := range slices.Sorted(slices.Values(nodes)) {
		s.WriteString(sized(text))
	}
	return s.String()
}

func (m *model) delta(a, b int) (string, api.Errno) {
	if min(a, b) < m.floor || max(a, b) > m.tip() {
		return "", api.ErrRange
	}
	x, y := texts(m.width, m.states[a]), texts(m.width, m.states[b])
	var nodes []string
	for text := range x {
		if y[text] == 0 {
			nodes = append(nodes, text)
		}
	}
	for text := range y {
		if x[text] == 0 {
			nodes = append(nodes, text)
		}
	}
	return bundled(nodes...), api.OK
}

func (m *model) prune(floor int) api.Errno {
	if floor < m.floor || floor > m.tip() {
		return api.ErrRange
	}
	m.floor = floor
	m.log += record("P", num(uint64(floor), 4))
	return api.OK
}

func (m *model) stored() int {
	all := map[string]int{}
	for _, state := range m.states[m.floor:] {
		maps.Copy(all, texts(m.width, state))
	}
	return len(all)
}

// unbundled are the nodes of a proof, and what is wrong with it, if anything is.
func unbundled(width int, proof string) ([]string, string) {
	var nodes []string
	for proof != "" {
		if len(proof) < 2 || len(proof)-2 < int(value(proof[:2])) {
			return nil, "bytes are missing"
		}
		size := 2 + int(value(proof[:2]))
		nodes, proof = append(nodes, proof[2:size]), proof[size:]
	}
	for i, text := range nodes {
		if !isNode(width, text) {
			return nil, "no node"
		}
		if i > 0 && nodes[i-1] >= text {
			return nil, "not rising"
		}
	}
	digests := map[string]int{}
	for _, text := range nodes {
		digests[hash(width, text)]++
	}
	if len(digests) < len(nodes) {
		return nil, "the same digest"
	}
	return nodes, ""
}

func isNode(width int, text string) bool {
	if strings.HasPrefix(text, "L") {
		return len(text) == 1+width+1+9 && text[1+width] < api.MaxOuts
	}
	if strings.HasPrefix(text, "N") {
		return len(text) == 1+2+2*width && value(text[1:3]) < uint64(8*(width+1))
	}
	return text == "E"
}

// descent goes down in one tree.
type descent struct {
	width int
	nodes []string
	met   []string
	left  []string
	outs  map[string]api.Out
	wrong string
}

func (d *descent) from(digest string, above []int) {
	at := slices.IndexFunc(d.nodes, func(text string) bool { return hash(d.width, text) == digest })
	if at < 0 {
		d.left = append(d.left, digest)
		return
	}
	text := d.nodes[at]
	if slices.Contains(d.met, text) {
		d.wrong = "met twice"
		return
	}
	d.met = append(d.met, text)
	if text[0] == 'L' {
		key := text[1 : d.width+2]
		if _, again := d.outs[key]; again {
			d.wrong = "a key twice"
		}
		d.outs[key] = api.Out{Amount: value(text[d.width+2 : d.width+10]), Owner: text[d.width+10]}
	}
	if text[0] != 'N' {
		return
	}
	b := int(value(text[1:3]))
	if slices.ContainsFunc(above, func(x int) bool { return x >= b }) {
		d.wrong = "not less"
	}
	above = append(slices.Clone(above), b)
	for _, side := range []string{text[3 : 3+d.width], text[3+d.width:]} {
		if d.wrong == "" {
			d.from(side, above)
		}
	}
}

func descended(width int, nodes []string, header string) *descent {
	d := &descent{width: width, nodes: nodes, outs: map[string]api.Out{}}
	d.from(header[4+2*width:], nil)
	slices.Sort(d.left)
	return d
}

// modelDiffer tells the changes, or why there are none: the last of its answers is empty, if it is true.
func modelDiffer(width int, before, after, proof string) ([]api.Change, string) {
	if width < 1 || width > api.MaxWidth {
		return nil, "no width"
	}
	if len(before) != 4+3*width || len(after) != 4+3*width {
		return nil, "no header"
	}
	nodes, wrong := unbundled(width, proof)
	if wrong != "" {
		return nil, wrong
	}
	x, y := descended(width, nodes, before), descended(width, nodes, after)
	if x.wrong != "" {
		return nil, x.wrong
	}
	if y.wrong != "" {
		return nil, y.wrong
	}
	for _, text := range nodes {
		if !slices.Contains(x.met, text) && !slices.Contains(y.met, text) {
			return nil, "not met"
		}
	}
	if !slices.Equal(x.left, y.left) {
		return nil, "left"
	}
	return changed(x.outs, y.outs), ""
}

// changed are the changes between two states.
func changed(old, fresh map[string]api.Out) []api.Change {
	found := map[string]api.Change{}
	for key, o := range old {
		if p, is := fresh[key]; !is {
			found[key] = api.Change{Coin: coinOf(key), Was: true, Old: o}
		} else if p != o {
			found[key] = api.Change{Coin: coinOf(key), Was: true, Is: true, Old: o, New: p}
		}
	}
	for key, o := range fresh {
		if _, was := old[key]; !was {
			found[key] = api.Change{Coin: coinOf(key), Is: true, New: o}
		}
	}
	var list []api.Change
	for _, key := range slices.Sorted(maps.Keys(found)) {
		list = append(list, found[key])
	}
	return list
}
