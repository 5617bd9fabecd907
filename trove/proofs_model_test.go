package trove_test

import (
	"math/big"
	"slices"
	"strings"

	"trove/api"
)

func isCoin(width int, c api.Coin) bool { return len(c.Tx) == width && c.N >= 0 && c.N < api.MaxOuts }

func (m *model) query(height int, c api.Coin) (string, api.Errno) {
	if height < m.floor || height > m.tip() {
		return "", api.ErrRange
	}
	if !isCoin(m.width, c) {
		return "", api.ErrForm
	}
	state, steps, key := m.states[height], 0, keyOf(c)
	way := ""
	for len(state) > 1 {
		b, sides := split(state)
		way += num(uint64(b), 2) + root(m.width, sides[1-bit(key, b)])
		state = sides[bit(key, b)]
		steps++
	}
	for k, o := range state {
		way += k + outText(o)
	}
	return num(uint64(steps), 2) + way, api.OK
}

// claim is a proof, part by part; none says that there are no coins.
type claim struct {
	none   bool
	bits   []int
	others []string
	key    string
	out    api.Out
}

func value(s string) uint64 { return new(big.Int).SetBytes([]byte(s)).Uint64() }

func (p claim) text() string {
	if p.none {
		return num(0, 2)
	}
	s := num(uint64(len(p.bits)), 2)
	for i, b := range p.bits {
		s += num(uint64(b), 2) + p.others[i]
	}
	return s + p.key + outText(p.out)
}

// claimOf is the claim of a text, if it has a proof's length.
func claimOf(width int, s string) (claim, bool) {
	if s == "\x00\x00" {
		return claim{none: true}, true
	}
	if len(s) < 2 || len(s) != 2+int(value(s[:2]))*(2+width)+width+1+9 {
		return claim{}, false
	}
	var p claim
	for range value(s[:2]) {
		step := s[2+len(p.bits)*(2+width):]
		p.bits = append(p.bits, int(value(step[:2])))
		p.others = append(p.others, step[2:2+width])
	}
	leaf := s[len(s)-width-10:]
	p.key = leaf[:width+1]
	p.out = api.Out{Amount: value(leaf[width+1 : width+9]), Owner: leaf[width+9]}
	return p, true
}

// nodes are the texts of a claim's nodes, from the root down.
func (p claim) nodes(width int) []string {
	if p.none {
		return []string{"E"}
	}
	texts := []string{leafText(p.key, p.out)}
	for i, b := range slices.Backward(p.bits) {
		below := hash(width, texts[0])
		if bit(p.key, b) == 0 {
			texts = append([]string{branchText(b, below, p.others[i])}, texts...)
		} else {
			texts = append([]string{branchText(b, p.others[i], below)}, texts...)
		}
	}
	return texts
}

// mayBe is whether a claim's numbers are such as a proof for a key may have.
func (p claim) mayBe(width int, key string) bool {
	if p.none {
		return true
	}
	for i, b := range p.bits {
		if b >= 8*(width+1) || i > 0 && b <= p.bits[i-1] || bit(key, b) != bit(p.key, b) {
			return false
		}
	}
	return p.key[width] < api.MaxOuts
}

// claimHolds is the claim of a proof that is not Bad.
func claimHolds(width int, header string, c api.Coin, proof string) (claim, bool) {
	if width < 1 || width > api.MaxWidth || len(header) != 4+3*width || !isCoin(width, c) {
		return claim{}, false
	}
	p, ok := claimOf(width, proof)
	if !ok || !p.mayBe(width, keyOf(c)) {
		return claim{}, false
	}
	return p, strings.HasSuffix(header, hash(width, p.nodes(width)[0]))
}

func modelVerify(width int, header string, c api.Coin, proof string) (int, api.Out) {
	p, ok := claimHolds(width, header, c, proof)
	switch {
	case !ok:
		return api.Bad, api.Out{}
	case p.key == keyOf(c):
		return api.There, p.out
	}
	return api.Absent, api.Out{}
}

func modelExtract(width int, header string, c api.Coin, p, q string) (string, string, bool) {
	v, x := modelVerify(width, header, c, p)
	w, y := modelVerify(width, header, c, q)
	if v == api.Bad || w == api.Bad || v == w && x == y {
		return "", "", false
	}
	a, _ := claimOf(width, p)
	b, _ := claimOf(width, q)
	for i, node := range a.nodes(width) {
		if other := b.nodes(width)[i]; node != other {
			return node, other, true
		}
	}
	panic("two proofs that say different things have the same nodes")
}
