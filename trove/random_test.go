package trove_test

import (
	"maps"
	"math/rand"
	"slices"
	"testing"

	"trove/api"
	"trove/trove"
)

// maker makes transactions by chance, most of them such as may be, for the state of a model.
type maker struct {
	r *rand.Rand
	m *model
}

func (k maker) coin() api.Coin {
	keys := slices.Sorted(maps.Keys(k.m.state))
	if len(keys) == 0 || k.r.Intn(12) == 0 {
		id := make([]byte, k.m.width)
		k.r.Read(id)
		return api.Coin{Tx: string(id), N: k.r.Intn(3)}
	}
	key := keys[k.r.Intn(len(keys))]
	return api.Coin{Tx: key[:k.m.width], N: int(key[k.m.width])}
}

// tx spends one to three coins and makes outputs of about their sum.
func (k maker) tx() api.Tx {
	var x api.Tx
	sum := uint64(0)
	for range 1 + k.r.Intn(5)/4 + k.r.Intn(5)/4 {
		c := k.coin()
		x.Ins = append(x.Ins, c)
		sum += k.m.state[keyOf(c)].Amount
	}
	count := 3 - k.r.Intn(9)/5 - k.r.Intn(9)/6
	for i := range count {
		amount := sum / uint64(count-i)
		if k.r.Intn(20) == 0 {
			amount += uint64(k.r.Intn(3))
		}
		x.Outs = append(x.Outs, api.Out{Amount: amount, Owner: uint8(k.r.Intn(256))})
		sum -= amount
	}
	return x
}

func (k maker) txs() []api.Tx {
	var txs []api.Tx
	for range k.r.Intn(4) {
		txs = append(txs, k.tx())
	}
	if len(txs) == 2 && len(txs[0].Outs) > 0 && k.r.Intn(2) == 0 {
		txs[1].Ins = []api.Coin{madeCoin(k.m.width, txs[0], 0)}
	}
	if k.r.Intn(15) == 0 {
		k.spoil(txs)
	}
	return txs
}

// spoil makes a transaction one that may not be.
func (k maker) spoil(txs []api.Tx) {
	if len(txs) == 0 {
		return
	}
	x := &txs[k.r.Intn(len(txs))]
	switch k.r.Intn(4) {
	case 0:
		x.Ins = nil
	case 1:
		x.Ins[0].N = []int{-1, 3, 256, 1 << 40}[k.r.Intn(4)]
	case 2:
		x.Ins[0].Tx += "a"
	case 3:
		x.Outs = make([]api.Out, 4)
	}
}

// spoiled is a block with one byte changed, or cut off, or with more behind it, or none of these.
func (k maker) spoiled(block string) string {
	b := []byte(block)
	switch k.r.Intn(6) {
	case 0:
		b[k.r.Intn(len(b))] ^= 1 << k.r.Intn(8)
	case 1:
		b = b[:k.r.Intn(len(b))]
	case 2:
		b = append(b, byte(k.r.Intn(256)))
	}
	return string(b)
}

// unchecked is a block for transactions that may not be applied: by its header it is the next one.
func (k maker) unchecked(txs []api.Tx) string {
	body := bodyText(txs)
	return k.m.ahead(body) + root(k.m.width, k.m.state) + body
}

func checkAlike(t *testing.T, l *trove.Ledger, m *model) {
	t.Helper()
	if l.Tip() != m.tip() {
		t.Fatalf("P5: Tip() = %d, want %d", l.Tip(), m.tip())
	}
	for height, want := range m.headers {
		if h, e := l.Header(height); h != want || e != api.OK {
			t.Fatalf("P5: Header(%d) = %x, %d, want %x", height, h, e, want)
		}
	}
	for _, height := range []int{-1, m.tip() + 1} {
		if h, e := l.Header(height); h != "" || e != api.ErrRange {
			t.Fatalf("P5: Header(%d) = %x, %d", height, h, e)
		}
	}
	if log := l.Log(); log != m.log {
		t.Fatalf("P14: Log() = %x, want %x", log, m.log)
	}
}

func TestAgainstTheModel(t *testing.T) {
	sealed, submitted := map[api.Errno]int{}, map[api.Errno]int{}
	for _, width := range []int{1, 1, 1, 2, 3, 8, 32} {
		for seed := range int64(12) {
			r := rand.New(rand.NewSource(seed*100 + int64(width)))
			outs := make([]api.Out, 1+r.Intn(3))
			for i := range outs {
				outs[i] = api.Out{Amount: r.Uint64() >> r.Intn(64), Owner: uint8(i)}
			}
			l, e := trove.New(width, outs)
			if l == nil || e != api.OK {
				t.Fatalf("P4: New(%d, %v) = %d", width, outs, e)
			}
			m := newModel(width, outs)
			k := maker{r, m}
			for range 60 {
				txs := k.txs()
				block, e := l.Seal(txs)
				want, wantE := m.seal(txs)
				if block != want || e != wantE {
					t.Fatalf("P6: width %d: Seal(%#v) = %x, %d, want %x, %d", width, txs, block, e, want, wantE)
				}
				sealed[e]++
				checkAlike(t, l, m)
				if e != api.OK {
					block = k.unchecked(txs)
				}
				block = k.spoiled(block)
				e, wantE = l.Submit(block), m.submit(block)
				if e != wantE {
					t.Fatalf("P7: width %d: Submit(%x) = %d, want %d", width, block, e, wantE)
				}
				submitted[e]++
				checkAlike(t, l, m)
			}
		}
	}
	t.Logf("Seal answered %v, Submit %v", sealed, submitted)
	for _, e := range []api.Errno{api.OK, api.ErrForm, api.ErrInput, api.ErrExists, api.ErrSum} {
		if sealed[e] == 0 || submitted[e] == 0 {
			t.Errorf("the error %d was not tried: Seal %d times, Submit %d times", e, sealed[e], submitted[e])
		}
	}
	if submitted[api.ErrTip] == 0 || submitted[api.ErrRoot] == 0 {
		t.Errorf("ErrTip or ErrRoot was not tried: %v", submitted)
	}
}
