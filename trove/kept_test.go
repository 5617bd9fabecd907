package trove_test

import (
	"math"
	"math/rand"
	"strings"
	"testing"

	"trove/api"
	"trove/trove"
)

// checkKept holds what a ledger tells of its heights against the model, by chance and at the floor.
func checkKept(t *testing.T, r *rand.Rand, l *trove.Ledger, m *model) {
	t.Helper()
	checkAlike(t, l, m)
	if got, want := l.Stored(), m.stored(); got != want {
		t.Fatalf("P13: width %d, floor %d, tip %d: Stored() = %d, want %d", m.width, m.floor, m.tip(), got, want)
	}
	coins := coinsOf(m, r)
	for _, height := range []int{m.floor - 1, m.floor, m.tip(), m.tip() + 1, r.Intn(len(m.headers)), 0} {
		checkQuery(t, l, m, height, coins[r.Intn(len(coins))])
		checkQuery(t, l, m, height, api.Coin{})
		checkDelta(t, l, m, height, m.tip())
		checkDelta(t, l, m, m.floor, height)
	}
}

// digestsMeet is whether different nodes of the states that are kept have the same digest.
func digestsMeet(m *model) bool {
	digests, all := map[string]int{}, map[string]int{}
	for _, state := range m.states[m.floor:] {
		for text := range texts(m.width, state) {
			digests[hash(m.width, text)]++
			all[text]++
		}
	}
	return len(digests) < len(all)
}

func TestP13AgainstTheModel(t *testing.T) {
	pruned, met := map[api.Errno]int{}, 0
	for _, width := range []int{1, 1, 1, 2, 3, 8, 32} {
		for seed := range int64(6) {
			r := rand.New(rand.NewSource(seed*100 + int64(width)))
			l, m := grown(t, width, r, 0)
			k := maker{r, m}
			for range 40 {
				if block, e := m.seal(k.txs()); e == api.OK && (l.Submit(block) != api.OK || m.submit(block) != api.OK) {
					t.Fatalf("P7: width %d: the block %x is refused", width, block)
				}
				if r.Intn(3) == 0 {
					floor := m.floor - 1 + r.Intn(4)
					if r.Intn(4) == 0 {
						floor = m.tip() - 1 + r.Intn(3)
					}
					e, want := l.Prune(floor), m.prune(floor)
					if e != want {
						t.Fatalf("P13: floor %d, tip %d: Prune(%d) = %d, want %d", m.floor, m.tip(), floor, e, want)
					}
					pruned[e]++
				}
				checkKept(t, r, l, m)
				if digestsMeet(m) {
					met++
				}
			}
		}
	}
	t.Logf("Prune: %v; digests met: %d times", pruned, met)
	if pruned[api.OK] < 100 || pruned[api.ErrRange] < 100 || met < 100 {
		t.Errorf("not all was tried: %v, %d", pruned, met)
	}
}

func TestP13DocumentsExample(t *testing.T) {
	first := []api.Out{out(5, 1)}
	l := ledger(t, 32, first...)
	c := firstCoin(32, 0, first)
	stored := func(want int) {
		t.Helper()
		if got := l.Stored(); got != want {
			t.Errorf("P13: Stored() = %d, want %d", got, want)
		}
	}
	stored(1)
	x := pay(c, out(3, 2), out(2, 1))
	take(t, l, x)
	stored(4)
	before, _ := l.Header(0)
	if e := l.Prune(1); e != api.OK {
		t.Errorf("P13: Prune(1) = %d", e)
	}
	stored(3)
	if p, e := l.Query(0, c); p != "" || e != api.ErrRange {
		t.Errorf("P8: Query below the floor = %x, %d", p, e)
	}
	if p, e := l.Query(0, api.Coin{}); p != "" || e != api.ErrRange {
		t.Errorf("P8: Query of no coin below the floor = %x, %d", p, e)
	}
	if h, e := l.Header(0); h != before || e != api.OK {
		t.Errorf("P5: Header(0) below the floor = %x, %d", h, e)
	}
	if e := l.Prune(0); e != api.ErrRange {
		t.Errorf("P13: Prune(0) = %d", e)
	}
	stored(3)
	// All that is left is spent: of no coins there is one node.
	take(t, l, pay(madeCoin(32, x, 0)), pay(madeCoin(32, x, 1)))
	stored(4)
	if e := l.Prune(2); e != api.OK {
		t.Errorf("P13: Prune(2) = %d", e)
	}
	stored(1)
}

func TestP13FloorsThatMayNotBe(t *testing.T) {
	r := rand.New(rand.NewSource(11))
	l, m := grown(t, 4, r, 20)
	for _, floor := range []int{0, 0, 2, 2, 5, m.tip(), m.tip()} {
		for _, bad := range []int{m.floor - 1, -1, m.tip() + 1, m.tip() + 2, 1 << 32, math.MaxInt, math.MinInt} {
			if e := l.Prune(bad); e != api.ErrRange {
				t.Errorf("P13: floor %d, tip %d: Prune(%d) = %d, want ErrRange", m.floor, m.tip(), bad, e)
			}
			checkKept(t, r, l, m)
		}
		if e := l.Prune(floor); e != api.OK || m.prune(floor) != api.OK {
			t.Errorf("P13: Prune(%d) = %d", floor, e)
		}
		checkKept(t, r, l, m)
	}
	// The floor is the tip; blocks come as ever, and are kept.
	k := maker{r, m}
	for range 20 {
		txs := k.txs()
		block, e := l.Seal(txs)
		if want, wantE := m.seal(txs); block != want || e != wantE {
			t.Fatalf("P6: Seal above the floor = %x, %d, want %x, %d", block, e, want, wantE)
		}
		if got, want := l.Submit(block), m.submit(block); got != want {
			t.Fatalf("P7: Submit above the floor = %d, want %d", got, want)
		}
		checkKept(t, r, l, m)
	}
}

// TestP13NothingElseChanges holds a ledger that was pruned against one that was not.
func TestP13NothingElseChanges(t *testing.T) {
	for _, width := range []int{1, 2, 32} {
		r := rand.New(rand.NewSource(int64(width)))
		l, m := grown(t, width, r, 20)
		whole, _ := grown(t, width, rand.New(rand.NewSource(int64(width))), 20)
		floor := m.tip() / 2
		if e := l.Prune(floor); e != api.OK {
			t.Fatalf("P13: Prune(%d) = %d", floor, e)
		}
		for _, c := range coinsOf(m, r) {
			for height := floor; height <= m.tip(); height++ {
				p, e := l.Query(height, c)
				if q, f := whole.Query(height, c); p != q || e != f || e != api.OK {
					t.Fatalf("P16: Query(%d, %x) behind Prune = %x, %d, want %x, %d", height, c, p, e, q, f)
				}
			}
		}
		for a := floor; a <= m.tip(); a++ {
			for b := floor; b <= m.tip(); b++ {
				p, e := l.Delta(a, b)
				if q, f := whole.Delta(a, b); p != q || e != f || e != api.OK {
					t.Fatalf("P16: Delta(%d, %d) behind Prune = %x, %d, want %x, %d", a, b, p, e, q, f)
				}
			}
		}
	}
}

func TestP13ManyBlocks(t *testing.T) {
	first := []api.Out{out(1, 1)}
	l := ledger(t, 16, first...)
	spent := firstCoin(16, 0, first)
	for range 1500 {
		x := pay(spent, out(1, 1), out(0, 2), out(0, 3))
		take(t, l, x)
		spent = madeCoin(16, x, 0)
	}
	// Of 3001 coins one tree has 6001 nodes; and every block makes some of its own.
	if n := l.Stored(); n < 3*6001 {
		t.Errorf("P13: Stored() = %d", n)
	}
	if e := l.Prune(1500); e != api.OK || l.Stored() != 6001 {
		t.Errorf("P13: Prune(1500) = %d; Stored() = %d, want 6001", e, l.Stored())
	}
}

// twin looks for a transaction with two outputs whose branch has the text of another's: the digests of both
// its leaves are those of two leaves that are there.
func twin(t *testing.T, spend api.Coin, zero, one string) api.Tx {
	t.Helper()
	for try := range uint64(4 << 20) {
		x := pay(spend, out(try>>16, uint8(try>>8)), out(0, uint8(try)))
		id := hash(1, "T"+txText(x))
		if id != spend.Tx && hash(1, leafText(id+"\x00", x.Outs[0])) == zero && hash(1, leafText(id+"\x01", x.Outs[1])) == one {
			return x
		}
	}
	t.Fatal("no transaction is found")
	return api.Tx{}
}

// TestP11P13ANodeTwiceInATree has two branches with one text, of which the trees share but one.
func TestP11P13ANodeTwiceInATree(t *testing.T) {
	first := []api.Out{out(1, 1), out(2, 2), out(1<<60, 3)}
	l, m := ledger(t, 1, first...), newModel(1, first)
	leaf := func(n int) string { return leafText(keyOf(firstCoin(1, n, first)), first[n]) }
	zero, one := hash(1, leaf(0)), hash(1, leaf(1))
	x := twin(t, firstCoin(1, 2, first), zero, one)
	if e := m.submit(take(t, l, x)); e != api.OK {
		t.Fatalf("P7: the block is refused: %d", e)
	}
	low := branchText(15, zero, one)
	if texts(1, m.states[0])[low] != 1 || texts(1, m.state)[low] != 2 {
		t.Fatal("the branch is not there twice")
	}
	if p := checkDelta(t, l, m, 0, 1); strings.Contains(p, sized(low)) || p != checkDelta(t, l, m, 1, 0) {
		t.Errorf("P11: Delta(0, 1) has a node that both trees have: %x", p)
	}
	if got, want := l.Stored(), m.stored(); got != want || got != 8 {
		t.Errorf("P13: Stored() = %d, want %d", got, want)
	}
	m.submit(take(t, l, pay(firstCoin(1, 0, first)), pay(madeCoin(1, x, 0))))
	if p := checkDelta(t, l, m, 1, 2); strings.Count(p, sized(low)) != 1 || p != checkDelta(t, l, m, 2, 1) {
		t.Errorf("P11: Delta(1, 2) has not once what is twice in one of the trees: %x", p)
	}
}
