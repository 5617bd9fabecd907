package trove_test

import (
	"crypto/sha256"
	"maps"
	"math/big"
	"slices"
	"strings"

	"trove/api"
)

// model is a ledger again, written down from the document's words as plainly as may be, with all states as maps
// and nothing of the program. The tests hold the program against it.
type model struct {
	width   int
	headers []string
	states  []map[string]api.Out
	state   map[string]api.Out // at the tip
	floor   int
	log     string
}

func hash(width int, s string) string {
	d := sha256.Sum256([]byte(s))
	return string(d[:width])
}

func num(n uint64, size int) string {
	b := make([]byte, size)
	for i := range b {
		b[size-1-i] = byte(n >> (8 * i))
	}
	return string(b)
}

func keyOf(c api.Coin) string { return c.Tx + num(uint64(c.N), 1) }

func outText(o api.Out) string { return num(o.Amount, 8) + num(uint64(o.Owner), 1) }

func outsText(outs []api.Out) string {
	s := num(uint64(len(outs)), 1)
	for _, o := range outs {
		s += outText(o)
	}
	return s
}

func txText(x api.Tx) string {
	s := num(uint64(len(x.Ins)), 1)
	for _, c := range x.Ins {
		s += keyOf(c)
	}
	return s + outsText(x.Outs)
}

func bodyText(txs []api.Tx) string {
	s := num(uint64(len(txs)), 1)
	for _, x := range txs {
		s += txText(x)
	}
	return s
}

func firstCoin(width, n int, outs []api.Out) api.Coin {
	return api.Coin{Tx: hash(width, "G"+outsText(outs)), N: n}
}

func madeCoin(width int, x api.Tx, n int) api.Coin {
	return api.Coin{Tx: hash(width, "T"+txText(x)), N: n}
}

func bit(key string, b int) byte { return key[b/8] >> (7 - b%8) & 1 }

// split is the first bit at which not all the keys of a state are the same, and the state's two sides there.
func split(state map[string]api.Out) (int, [2]map[string]api.Out) {
	keys := slices.Sorted(maps.Keys(state))
	b := 0
	for !slices.ContainsFunc(keys, func(k string) bool { return bit(k, b) != bit(keys[0], b) }) {
		b++
	}
	sides := [2]map[string]api.Out{{}, {}}
	for _, k := range keys {
		sides[bit(k, b)][k] = state[k]
	}
	return b, sides
}

func leafText(key string, o api.Out) string { return "L" + key + outText(o) }

func branchText(b int, zero, one string) string { return "N" + num(uint64(b), 2) + zero + one }

func root(width int, state map[string]api.Out) string {
	if len(state) == 0 {
		return hash(width, "E")
	}
	if len(state) == 1 {
		for k, o := range state {
			return hash(width, leafText(k, o))
		}
	}
	b, sides := split(state)
	return hash(width, branchText(b, root(width, sides[0]), root(width, sides[1])))
}

func newModel(width int, outs []api.Out) *model {
	m := &model{width: width, state: map[string]api.Out{}}
	for n, o := range outs {
		m.state[keyOf(firstCoin(width, n, outs))] = o
	}
	m.headers = []string{num(0, 4) + strings.Repeat("\x00", width) + firstCoin(width, 0, outs).Tx + root(width, m.state)}
	m.states = append(m.states, m.state)
	m.log = record("G", num(uint64(width), 1)+outsText(outs))
	return m
}

func (m *model) tip() int { return len(m.headers) - 1 }

func total(outs []api.Out) *big.Int {
	sum := new(big.Int)
	for _, o := range outs {
		sum.Add(sum, new(big.Int).SetUint64(o.Amount))
	}
	return sum
}

// applied is the state behind transactions, in a map of its own.
func (m *model) applied(txs []api.Tx) (map[string]api.Out, api.Errno) {
	state := maps.Clone(m.state)
	most := new(big.Int).SetUint64(1<<64 - 1)
	for _, x := range txs {
		var spent []api.Out
		for _, c := range x.Ins {
			o, there := state[keyOf(c)]
			if !there {
				return nil, api.ErrInput
			}
			spent = append(spent, o)
			delete(state, keyOf(c))
		}
		for n, o := range x.Outs {
			k := keyOf(madeCoin(m.width, x, n))
			if _, there := state[k]; there {
				return nil, api.ErrExists
			}
			state[k] = o
		}
		in, out := total(spent), total(x.Outs)
		if in.Cmp(most) > 0 || out.Cmp(most) > 0 || out.Cmp(in) > 0 {
			return nil, api.ErrSum
		}
	}
	return state, api.OK
}

func (m *model) mayBe(txs []api.Tx) bool {
	if len(txs) > api.MaxTxs {
		return false
	}
	for _, x := range txs {
		if len(x.Ins) < 1 || len(x.Ins) > api.MaxIns || len(x.Outs) > api.MaxOuts {
			return false
		}
		for _, c := range x.Ins {
			if len(c.Tx) != m.width || c.N < 0 || c.N >= api.MaxOuts {
				return false
			}
		}
	}
	return true
}

// ahead is the header of the next block with a body, but for the digest of the state.
func (m *model) ahead(body string) string {
	return num(uint64(len(m.headers)), 4) + hash(m.width, "H"+m.headers[m.tip()]) + hash(m.width, "B"+body)
}

func (m *model) seal(txs []api.Tx) (string, api.Errno) {
	if !m.mayBe(txs) {
		return "", api.ErrForm
	}
	state, e := m.applied(txs)
	if e != api.OK {
		return "", e
	}
	body := bodyText(txs)
	return m.ahead(body) + root(m.width, state) + body, api.OK
}

// parsed are the transactions of a body's bytes. It reads without any care, and lets a panic tell that bytes are missing.
func (m *model) parsed(body string) (txs []api.Tx, ok bool) {
	defer func() {
		if recover() != nil {
			txs, ok = nil, false
		}
	}()
	take := func(n int) string {
		s := body[:n]
		body = body[n:]
		return s
	}
	for range take(1)[0] {
		var x api.Tx
		for range take(1)[0] {
			id := take(m.width)
			x.Ins = append(x.Ins, api.Coin{Tx: id, N: int(take(1)[0])})
		}
		for range take(1)[0] {
			amount := new(big.Int).SetBytes([]byte(take(8))).Uint64()
			x.Outs = append(x.Outs, api.Out{Amount: amount, Owner: take(1)[0]})
		}
		txs = append(txs, x)
	}
	return txs, body == "" && m.mayBe(txs)
}

func (m *model) submit(block string) api.Errno {
	size := 4 + 3*m.width
	if len(block) < size {
		return api.ErrForm
	}
	header, body := block[:size], block[size:]
	txs, ok := m.parsed(body)
	if !ok {
		return api.ErrForm
	}
	if !strings.HasPrefix(header, m.ahead(body)) {
		return api.ErrTip
	}
	state, e := m.applied(txs)
	if e != api.OK {
		return e
	}
	if header[size-m.width:] != root(m.width, state) {
		return api.ErrRoot
	}
	m.headers, m.states, m.state = append(m.headers, header), append(m.states, state), state
	m.log += record("B", block)
	return api.OK
}
