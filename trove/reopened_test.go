package trove_test

import (
	"math/rand"
	"strings"
	"testing"

	"trove/api"
	"trove/trove"
)

// checkSame holds two ledgers against each other, by all calls that do not change them.
func checkSame(t *testing.T, r *rand.Rand, a, b *trove.Ledger, m *model) {
	t.Helper()
	checkAlike(t, a, m)
	checkAlike(t, b, m)
	if a.Stored() != b.Stored() {
		t.Fatalf("P16: Stored() = %d, and of the one that was opened %d", a.Stored(), b.Stored())
	}
	coins := append(coinsOf(m, r), api.Coin{}, api.Coin{Tx: strings.Repeat("a", m.width), N: 3})
	for height := -1; height <= m.tip()+1; height++ {
		for _, c := range coins {
			p, e := a.Query(height, c)
			if q, f := b.Query(height, c); p != q || e != f {
				t.Fatalf("P16: Query(%d, %x) = %x, %d, and of the one that was opened %x, %d", height, c, p, e, q, f)
			}
		}
		for other := -1; other <= m.tip()+1; other++ {
			p, e := a.Delta(height, other)
			if q, f := b.Delta(height, other); p != q || e != f {
				t.Fatalf("P16: Delta(%d, %d) = %x, %d, and of the one that was opened %x, %d", height, other, p, e, q, f)
			}
		}
	}
}

func TestP16OpenOfALogAnswersAlike(t *testing.T) {
	for _, width := range []int{1, 1, 2, 3, 8, 31, 32} {
		for seed := range int64(3) {
			r := rand.New(rand.NewSource(seed*100 + int64(width)))
			l, m := pruned(t, width, r, 12)
			opened, _, e := checkOpen(t, "a log", l.Log())
			if e != api.OK {
				t.Fatalf("P16: Open of a log = %d", e)
			}
			checkSame(t, r, l, opened, m)
			k := maker{r, m}
			for range 12 {
				txs := k.txs()
				block, e := l.Seal(txs)
				if again, f := opened.Seal(txs); block != again || e != f {
					t.Fatalf("P16: Seal(%#v) = %x, %d, and of the one that was opened %x, %d", txs, block, e, again, f)
				}
				if e != api.OK {
					block = k.unchecked(txs)
				}
				block = k.spoiled(block)
				if e, f, want := l.Submit(block), opened.Submit(block), m.submit(block); e != want || f != want {
					t.Fatalf("P16: Submit(%x) = %d, and of the one that was opened %d, want %d", block, e, f, want)
				}
				floor := m.floor - 1 + r.Intn(3)
				if e, f, want := l.Prune(floor), opened.Prune(floor), m.prune(floor); e != want || f != want {
					t.Fatalf("P16: Prune(%d) = %d, and of the one that was opened %d, want %d", floor, e, f, want)
				}
			}
			checkSame(t, r, l, opened, m)
		}
	}
}

// TestP16ProofsOfALedgerThatWasOpened asks those who have the headers alone.
func TestP16ProofsOfALedgerThatWasOpened(t *testing.T) {
	told := 0
	for _, width := range []int{1, 1, 2, 4, 4, 32, 32} {
		r := rand.New(rand.NewSource(int64(width + 10*told)))
		_, m := pruned(t, width, r, 16)
		l, _, _ := checkOpen(t, "a log", m.log)
		for height := m.floor; height <= m.tip(); height++ {
			for _, c := range coinsOf(m, r) {
				p, _ := l.Query(height, c)
				o, there := m.states[height][keyOf(c)]
				kind := api.Absent
				if there {
					kind = api.There
				}
				says(t, "a proof of a ledger that was opened", width, m.headers[height], c, p, kind, o)
			}
			if meet(width, m.states[m.floor], m.states[height]) {
				continue
			}
			p, _ := l.Delta(m.floor, height)
			differs(t, "a proof of a ledger that was opened", width, m.headers[m.floor], m.headers[height], p, true,
				changed(m.states[m.floor], m.states[height])...)
			told++
		}
	}
	if told < 20 {
		t.Errorf("Delta was not tried: %d times", told)
	}
}

// TestP16WhatIsRefusedIsNotInTheLog has a ledger to which much is refused, and one to which that was never told.
func TestP16WhatIsRefusedIsNotInTheLog(t *testing.T) {
	for _, width := range []int{1, 2, 32} {
		first := []api.Out{out(100, 1), out(100, 2)}
		l, plain, m := ledger(t, width, first...), ledger(t, width, first...), newModel(width, first)
		taken := take(t, l)
		plain.Submit(taken)
		m.submit(taken)
		for want, block := range refusedBlocks(t, m, taken) {
			if e := l.Submit(block); e != want {
				t.Errorf("P7: width %d: Submit = %d, want %d", width, e, want)
			}
			if l.Log() != plain.Log() {
				t.Errorf("P16: width %d: a block that is refused for %d is in the log", width, want)
			}
		}
		checkSame(t, rand.New(rand.NewSource(1)), l, plain, m)
	}
}

// TestP16WhateverTwoProofsSay takes digests of one byte, where proofs that say different things are soon found.
func TestP16WhateverTwoProofsSay(t *testing.T) {
	same, made := 0, 0
	for seed := range int64(8) {
		r := rand.New(rand.NewSource(seed + 50))
		_, m := pruned(t, 1, r, 20)
		l, _, _ := checkOpen(t, "a log", m.log)
		coins, header := coinsOf(m, r), m.headers[m.tip()]
		c := coins[r.Intn(len(coins))]
		proofs := holding(t, r, l, m, m.tip(), c)
		for _, p := range proofs {
			kind, o := trove.Verify(1, header, c, proofs[0])
			other, x := trove.Verify(1, header, c, p)
			a, b, ok := trove.Extract(1, header, c, proofs[0], p)
			if alike := kind == other && o == x; alike {
				same++
				if ok {
					t.Fatalf("P16: two proofs say the same, and Extract makes %x and %x of them", a, b)
				}
				continue
			}
			made++
			if !ok || a == b || hash(1, a) != hash(1, b) {
				t.Fatalf("P16: two proofs say different things, and Extract makes %x and %x of them, %v", a, b, ok)
			}
		}
	}
	if same < 20 || made < 20 {
		t.Errorf("not all was tried: %d, %d", same, made)
	}
}
