package trove_test

import (
	"math"
	"math/rand"
	"strings"
	"testing"

	"trove/api"
	"trove/trove"
)

// pruned is a ledger with some blocks and floors, taken by chance, and its model.
func pruned(t *testing.T, width int, r *rand.Rand, blocks int) (*trove.Ledger, *model) {
	t.Helper()
	l, m := grown(t, width, r, 1)
	k := maker{r, m}
	for range blocks {
		if block, e := m.seal(k.txs()); e == api.OK && (l.Submit(block) != api.OK || m.submit(block) != api.OK) {
			t.Fatalf("P7: width %d: the block %x is refused", width, block)
		}
		if floor := m.floor + r.Intn(3); r.Intn(4) == 0 && l.Prune(floor) != m.prune(floor) {
			t.Fatalf("P13: width %d: Prune(%d) is not what it should be", width, floor)
		}
	}
	return l, m
}

// shortLog is a log of all kinds of records, with a block that spends and makes coins.
func shortLog(t *testing.T, width int) string {
	t.Helper()
	first := []api.Out{out(5, 1), out(7, 2)}
	l := ledger(t, width, first...)
	x := pay(firstCoin(width, 0, first), out(2, 2), out(3, 3))
	take(t, l, x)
	if e := l.Prune(1); e != api.OK {
		t.Fatalf("P13: Prune(1) = %d", e)
	}
	take(t, l, pay(madeCoin(width, x, 1)), pay(madeCoin(width, x, 0), out(1, 1)))
	if e := l.Prune(1); e != api.OK {
		t.Fatalf("P13: Prune(1) again = %d", e)
	}
	return l.Log()
}

// checkOpen holds what Open answers against the model, and tells both.
func checkOpen(t *testing.T, what, log string) (*trove.Ledger, *model, api.Errno) {
	t.Helper()
	l, place, e := trove.Open(log)
	m, wantPlace, wantE := modelOpen(log)
	if (l == nil) != (m == nil) || place != wantPlace || e != wantE {
		t.Fatalf("P15: Open of %s = %v, %d, %d, want %v, %d, %d: %x", what, l != nil, place, e, m != nil, wantPlace, wantE, log)
	}
	if l != nil {
		checkAlike(t, l, m)
		if l.Log() != log[:place] {
			t.Fatalf("P15: behind Open of %s Log() = %x, want %x", what, l.Log(), log[:place])
		}
	}
	return l, m, e
}

// recordsOf are the records of a log, one by one.
func recordsOf(t *testing.T, log string) []string {
	t.Helper()
	var records []string
	for log != "" {
		_, content, ok := wholeRecord(log)
		if !ok {
			t.Fatalf("P14: no whole record begins with %x", log)
		}
		size := 7 + len(content)
		records, log = append(records, log[:size]), log[size:]
	}
	return records
}

// resealed is a record of these bytes, but for the last four: they are made its digest.
func resealed(bytes []byte) string {
	s := string(bytes[:len(bytes)-4])
	return s + hash(4, s)
}

func TestP14DocumentsExample(t *testing.T) {
	l := ledger(t, 32, out(5, 1))
	want := "G\x00\x0b\x20\x01" + "\x00\x00\x00\x00\x00\x00\x00\x05\x01" + "\xa1\xdb\xac\xb0"
	if log := l.Log(); log != want {
		t.Errorf("P14: Log() = %x, want %x", log, want)
	}
}

func TestP14AllThatWasDoneAndNothingElse(t *testing.T) {
	first := []api.Out{out(5, 1), out(math.MaxUint64, 255)}
	for _, width := range []int{2, 32} {
		l := ledger(t, width, first...)
		want := record("G", num(uint64(width), 1)+"\x02"+outText(first[0])+outText(first[1]))
		check := func(what string) {
			t.Helper()
			if log := l.Log(); log != want {
				t.Fatalf("P14: behind %s Log() = %x, want %x", what, log, want)
			}
		}
		check("New")
		c := firstCoin(width, 0, first)
		x := pay(c, out(3, 2), out(2, 1))
		block, _ := l.Seal([]api.Tx{x})
		check("Seal")
		l.Submit(block[1:])
		l.Submit(block + "\x00")
		l.Submit("")
		check("Submit of blocks that are none")
		l.Submit(block)
		want += record("B", block)
		check("Submit")
		l.Submit(block)
		l.Seal([]api.Tx{x})
		check("the same again")
		for _, floor := range []int{-1, 2, math.MaxInt, math.MinInt, 1 << 32} {
			l.Prune(floor)
		}
		check("Prune of floors that may not be")
		l.Query(0, c)
		l.Query(9, c)
		l.Delta(0, 1)
		l.Header(1)
		l.Tip()
		l.Stored()
		l.Log()
		check("calls that change nothing")
		// A floor that is the floor already may be: it was done, too.
		for _, floor := range []int{0, 0, 1, 1} {
			l.Prune(floor)
			want += record("P", "\x00\x00\x00"+num(uint64(floor), 1))
			check("Prune")
		}
		l.Prune(0)
		check("Prune below the floor")
		want += record("B", take(t, l))
		check("an empty block")
	}
}

func TestP14GreatHeights(t *testing.T) {
	l := ledger(t, 1, out(1, 1))
	for range 1<<16 + 2 {
		take(t, l)
	}
	for _, floor := range []int{255, 256, 257, 65535, 65536, 65537} {
		if e := l.Prune(floor); e != api.OK {
			t.Errorf("P13: Prune(%d) = %d", floor, e)
		}
		if !strings.HasSuffix(l.Log(), record("P", num(uint64(floor), 4))) {
			t.Errorf("P14: the log does not end with the floor %d", floor)
		}
	}
	log := l.Log()
	again, place, e := trove.Open(log)
	if again == nil || place != len(log) || e != api.OK || again.Tip() != 1<<16+2 || again.Log() != log || again.Stored() != l.Stored() {
		t.Errorf("P15: Open of a long log = %v, %d, %d", again != nil, place, e)
	}
}
