package trove_test

import (
	"fmt"
	"math"
	"strings"
	"testing"

	"trove/api"
	"trove/trove"
)

func out(amount uint64, owner uint8) api.Out { return api.Out{Amount: amount, Owner: owner} }

func pay(c api.Coin, outs ...api.Out) api.Tx { return api.Tx{Ins: []api.Coin{c}, Outs: outs} }

func ledger(t *testing.T, width int, outs ...api.Out) *trove.Ledger {
	t.Helper()
	l, e := trove.New(width, outs)
	if l == nil || e != api.OK {
		t.Fatalf("P4: New(%d, %v) = %v, %d", width, outs, l, e)
	}
	return l
}

// take seals transactions and submits the block.
func take(t *testing.T, l *trove.Ledger, txs ...api.Tx) string {
	t.Helper()
	block, e := l.Seal(txs)
	if e != api.OK {
		t.Fatalf("P6: Seal(%#v) = %d", txs, e)
	}
	if e := l.Submit(block); e != api.OK {
		t.Fatalf("P7: Submit of what Seal gave = %d", e)
	}
	return block
}

func refuses(t *testing.T, l *trove.Ledger, e api.Errno, txs ...api.Tx) {
	t.Helper()
	if block, got := l.Seal(txs); block != "" || got != e {
		t.Errorf("P6: Seal(%#v) = %x, %d, want %d", txs, block, got, e)
	}
}

func TestP3Examples(t *testing.T) {
	for _, x := range []struct {
		width int
		s     string
		want  string
	}{
		{4, "", "\xe3\xb0\xc4\x42"},
		{3, "abc", "\xba\x78\x16"},
		{1, "", "\xe3"},
		{32, "abc", hash(32, "abc")},
	} {
		if d, e := trove.Digest(x.width, x.s); d != x.want || e != api.OK {
			t.Errorf("P3: Digest(%d, %q) = %x, %d, want %x", x.width, x.s, d, e, x.want)
		}
	}
}

func TestP3WidthsThatAreNone(t *testing.T) {
	for _, width := range []int{0, -1, 33, 34, 257, math.MaxInt, math.MinInt} {
		if d, e := trove.Digest(width, "abc"); d != "" || e != api.ErrForm {
			t.Errorf("P3: Digest(%d, abc) = %x, %d", width, d, e)
		}
	}
}

func TestP4AllWidthsAndNumbersOfOutputs(t *testing.T) {
	for width := -1; width <= 34; width++ {
		for count := range 6 {
			outs := make([]api.Out, count)
			l, e := trove.New(width, outs)
			if width < 1 || width > 32 || count < 1 || count > 3 {
				if l != nil || e != api.ErrForm {
					t.Errorf("P4: New(%d, %d outputs) = %v, %d", width, count, l != nil, e)
				}
				continue
			}
			if l == nil || e != api.OK {
				t.Fatalf("P4: New(%d, %d outputs) = %v, %d", width, count, l != nil, e)
			}
			checkAlike(t, l, newModel(width, outs))
		}
	}
	for _, width := range []int{math.MinInt, math.MaxInt, 256 + 1} {
		if l, e := trove.New(width, []api.Out{out(1, 1)}); l != nil || e != api.ErrForm {
			t.Errorf("P4: New(%d, ..) = %v, %d", width, l != nil, e)
		}
	}
	for _, count := range []int{256, 257, 65537} {
		if l, e := trove.New(32, make([]api.Out, count)); l != nil || e != api.ErrForm {
			t.Errorf("P4: New(32, %d outputs) = %v, %d", count, l != nil, e)
		}
	}
}

func TestP4FirstOutputsMayBeMoreThanASum(t *testing.T) {
	most := out(math.MaxUint64, 255)
	outs := []api.Out{most, most, most}
	l := ledger(t, 32, outs...)
	checkAlike(t, l, newModel(32, outs))
	take(t, l, pay(firstCoin(32, 2, outs), most))
}

func TestP5HeadersStay(t *testing.T) {
	l := ledger(t, 3, out(1, 1))
	m := newModel(3, []api.Out{out(1, 1)})
	for range 300 {
		if e := m.submit(take(t, l)); e != api.OK {
			t.Fatalf("P6: an empty block is refused: %d", e)
		}
	}
	checkAlike(t, l, m)
	for _, height := range []int{math.MinInt, math.MaxInt, 301, -300, 1 << 32} {
		if h, e := l.Header(height); h != "" || e != api.ErrRange {
			t.Errorf("P5: Header(%d) = %x, %d", height, h, e)
		}
	}
}

func TestDocumentsExample(t *testing.T) {
	first := []api.Out{out(5, 1)}
	l := ledger(t, 32, first...)
	c := firstCoin(32, 0, first)
	x := pay(c, out(3, 2), out(2, 1))
	refuses(t, l, api.ErrSum, pay(c, out(6, 1)))
	block := take(t, l, x)
	if e := l.Submit(block); e != api.ErrTip {
		t.Errorf("P7: the same block again = %d, want ErrTip", e)
	}
	refuses(t, l, api.ErrInput, x)
	if l.Tip() != 1 {
		t.Errorf("P5: Tip() = %d", l.Tip())
	}
}

func TestP6FormComesFirst(t *testing.T) {
	first := []api.Out{out(5, 1)}
	l := ledger(t, 8, first...)
	c := firstCoin(8, 0, first)
	good, missing := pay(c, out(5, 1)), api.Coin{Tx: "missing!", N: 0}
	for _, bad := range []api.Tx{
		{},
		{Outs: first},
		{Ins: []api.Coin{c, c, c, c}},
		pay(c, make([]api.Out, 4)...),
		pay(api.Coin{Tx: c.Tx[:7], N: 0}),
		pay(api.Coin{Tx: c.Tx + "a", N: 0}),
		pay(api.Coin{Tx: "", N: 0}),
		pay(api.Coin{Tx: c.Tx, N: 3}),
		pay(api.Coin{Tx: c.Tx, N: -1}),
		pay(api.Coin{Tx: c.Tx, N: 256}),
		pay(api.Coin{Tx: c.Tx, N: math.MaxInt}),
		pay(api.Coin{Tx: c.Tx, N: math.MinInt}),
		{Ins: []api.Coin{missing, {Tx: c.Tx, N: 3}}},
		{Ins: make([]api.Coin, 257)},
		pay(c, make([]api.Out, 257)...),
	} {
		refuses(t, l, api.ErrForm, bad)
		refuses(t, l, api.ErrForm, pay(missing), good, bad)
		refuses(t, l, api.ErrForm, pay(c, out(6, 1)), bad)
	}
	refuses(t, l, api.ErrForm, make([]api.Tx, 4)...)
	refuses(t, l, api.ErrForm, pay(missing), pay(missing), pay(missing), pay(missing))
	refuses(t, l, api.ErrForm, make([]api.Tx, 256)...)
}

func TestP6MostOfEverything(t *testing.T) {
	first := []api.Out{out(1, 1), out(2, 2), out(3, 3)}
	l, m := ledger(t, 32, first...), newModel(32, first)
	c := func(n int) api.Coin { return firstCoin(32, n, first) }
	x := api.Tx{Ins: []api.Coin{c(2), c(0), c(1)}, Outs: []api.Out{out(3, 1), out(2, 1), out(1, 1)}}
	y := pay(madeCoin(32, x, 2), out(0, 0), out(1, 0), out(0, 0))
	z := pay(madeCoin(32, y, 1))
	if e := m.submit(take(t, l, x, y, z)); e != api.OK {
		t.Errorf("P6: the block is refused: %d", e)
	}
	checkAlike(t, l, m)
}

func TestP6NothingLeft(t *testing.T) {
	first := []api.Out{out(1, 1)}
	l := ledger(t, 5, first...)
	take(t, l, pay(firstCoin(5, 0, first)))
	if h, _ := l.Header(1); !strings.HasSuffix(h, hash(5, "E")) {
		t.Errorf("P6: the header of no coins is %x, its state should be %x", h, hash(5, "E"))
	}
	take(t, l)
	refuses(t, l, api.ErrInput, pay(firstCoin(5, 0, first)))
}

func TestP6ErrorsInTheirOrder(t *testing.T) {
	first := []api.Out{out(5, 1), out(math.MaxUint64, 2), out(1, 3)}
	l := ledger(t, 32, first...)
	a, most, one := firstCoin(32, 0, first), firstCoin(32, 1, first), firstCoin(32, 2, first)
	missing := api.Coin{Tx: a.Tx[1:] + "a", N: 0}
	over := []api.Out{out(math.MaxUint64, 1), out(1, 1)}
	ins := func(coins ...api.Coin) api.Tx { return api.Tx{Ins: coins} }
	refuses(t, l, api.ErrInput, ins(missing))
	refuses(t, l, api.ErrInput, ins(a, missing))
	refuses(t, l, api.ErrInput, ins(a, a))
	refuses(t, l, api.ErrInput, ins(a, most, a))
	refuses(t, l, api.ErrInput, api.Tx{Ins: []api.Coin{most, a, missing}, Outs: over})
	refuses(t, l, api.ErrInput, pay(a, out(5, 5)), pay(a, out(6, 6)))
	refuses(t, l, api.ErrInput, pay(madeCoin(32, pay(a, out(5, 5)), 1)), pay(a, out(5, 5)))
	refuses(t, l, api.ErrInput, pay(madeCoin(32, pay(a, out(5, 5)), 0)), pay(a, out(5, 5)))
	refuses(t, l, api.ErrInput, pay(a, out(5, 5)), pay(madeCoin(32, pay(a, out(5, 5)), 1)))
	refuses(t, l, api.ErrSum, pay(a, out(6, 6)), pay(a, out(6, 6)))
	refuses(t, l, api.ErrSum, ins(most, one))
	refuses(t, l, api.ErrSum, ins(one, most, a))
	refuses(t, l, api.ErrSum, pay(a, over...))
	refuses(t, l, api.ErrSum, pay(most, over...))
	refuses(t, l, api.ErrSum, pay(a, out(1<<63, 1), out(1<<63, 1), out(5, 1)))
	refuses(t, l, api.ErrSum, pay(a, out(5, 1), out(1, 1)))
	for _, x := range []api.Tx{pay(most, out(math.MaxUint64-1, 1), out(1, 1)), pay(a, out(4, 1)), pay(a, out(5, 1), out(0, 1)), ins(a, one)} {
		if _, e := l.Seal([]api.Tx{x}); e != api.OK {
			t.Errorf("P6: Seal(%#v) = %d", x, e)
		}
	}
}

// meeting looks for a transaction with one output, of those that spend a coin, whose id is a given one.
func meeting(t *testing.T, spend api.Coin, amount uint64, id string) api.Tx {
	t.Helper()
	for low := range amount {
		for owner := range 256 {
			if x := pay(spend, out(amount-low, uint8(owner))); madeCoin(len(id), x, 0).Tx == id {
				return x
			}
		}
	}
	t.Fatalf("no transaction has the id %x", id)
	return api.Tx{}
}

func TestP6CoinsThatAreThereAlready(t *testing.T) {
	first := []api.Out{out(100, 1), out(100, 2)}
	l, m := ledger(t, 1, first...), newModel(1, first)
	a, b := firstCoin(1, 0, first), firstCoin(1, 1, first)
	x := meeting(t, b, 100, a.Tx)
	refuses(t, l, api.ErrExists, x)
	// What it makes of b is worth more than b: the error that is named first is told.
	for amount := uint64(200); ; amount += 100 {
		x := meeting(t, b, amount, a.Tx)
		if x.Outs[0].Amount > 100 {
			refuses(t, l, api.ErrExists, x)
			break
		}
	}
	refuses(t, l, api.ErrInput, api.Tx{Ins: []api.Coin{b, b}, Outs: x.Outs})
	// A coin that is spent ahead may come in again: here as the transaction's own.
	y := meeting(t, a, 100, a.Tx)
	if e := m.submit(take(t, l, y)); e != api.OK {
		t.Errorf("P6: the block is refused: %d", e)
	}
	checkAlike(t, l, m)
}

func TestP7EveryChangedByte(t *testing.T) {
	first := []api.Out{out(5, 1), out(7, 2)}
	for _, width := range []int{2, 32} {
		l, m := ledger(t, width, first...), newModel(width, first)
		m.submit(take(t, l))
		x := pay(firstCoin(width, 0, first), out(2, 2), out(3, 3))
		good, _ := l.Seal([]api.Tx{x, pay(madeCoin(width, x, 1))})
		for i := range len(good) {
			for _, turn := range []byte{1, 2, 128, 255} {
				bad := []byte(good)
				bad[i] ^= turn
				checkRefused(t, l, m, string(bad))
			}
			checkRefused(t, l, m, good[:i])
			checkRefused(t, l, m, good[i+1:])
		}
		checkRefused(t, l, m, good+"\x00")
		checkRefused(t, l, m, good+good)
		if e := l.Submit(good); e != api.OK {
			t.Errorf("P7: the good block, at last = %d", e)
		}
	}
}

// checkRefused submits a block to a ledger and to its model, which both refuse it, and change nothing.
func checkRefused(t *testing.T, l *trove.Ledger, m *model, block string) {
	t.Helper()
	e, want := l.Submit(block), m.submit(block)
	if e == api.OK || e != want {
		t.Fatalf("P7: Submit(%x) = %d, want %d", block, e, want)
	}
	checkAlike(t, l, m)
}

func TestP7ErrorsInTheirOrder(t *testing.T) {
	first := []api.Out{out(5, 1)}
	l := ledger(t, 4, first...)
	c := firstCoin(4, 0, first)
	good, _ := l.Seal([]api.Tx{pay(c, out(5, 2))})
	height, ahead, state := good[:4], good[4:8], good[12:16]
	tooMuch, missing := bodyText([]api.Tx{pay(c, out(6, 2))}), bodyText([]api.Tx{pay(api.Coin{Tx: "none", N: 0})})
	none := "\x01\x00\x00"
	for _, x := range []struct {
		what, block string
		e           api.Errno
	}{
		{"all wrong", "\xff\xff\xff\xff" + "wrong, wrong" + none, api.ErrForm},
		{"another height", num(2, 4) + ahead + hash(4, "B"+tooMuch) + "root" + tooMuch, api.ErrTip},
		{"the tip's height", num(0, 4) + ahead + hash(4, "B"+tooMuch) + "root" + tooMuch, api.ErrTip},
		{"a height far above", num(1<<31+1, 4) + ahead + hash(4, "B"+tooMuch) + "root" + tooMuch, api.ErrTip},
		{"another one ahead", height + "head" + hash(4, "B"+tooMuch) + "root" + tooMuch, api.ErrTip},
		{"another body", height + ahead + hash(4, "B"+missing) + "root" + tooMuch, api.ErrTip},
		{"too much going out", height + ahead + hash(4, "B"+tooMuch) + "root" + tooMuch, api.ErrSum},
		{"a coin that is not there", height + ahead + hash(4, "B"+missing) + "root" + missing, api.ErrInput},
		{"another state", good[:12] + "root" + good[16:], api.ErrRoot},
		{"the state ahead", height + ahead + hash(4, "B\x00") + state + "\x00", api.ErrRoot},
	} {
		if e := l.Submit(x.block); e != x.e || l.Tip() != 0 {
			t.Errorf("P7: Submit of a block with %s = %d, want %d; Tip() = %d", x.what, e, x.e, l.Tip())
		}
	}
}

func TestP7ABlockOfAnotherLedger(t *testing.T) {
	first := []api.Out{out(5, 1)}
	a, b, other := ledger(t, 4, first...), ledger(t, 4, first...), ledger(t, 4, out(6, 1))
	block := take(t, a, pay(firstCoin(4, 0, first), out(5, 5)))
	if e := other.Submit(block); e != api.ErrTip {
		t.Errorf("P7: a block of a ledger with other first outputs = %d, want ErrTip", e)
	}
	if e := b.Submit(block); e != api.OK {
		t.Errorf("P7: a block of a ledger that is alike = %d", e)
	}
	if h, g := fmt.Sprint(a.Header(1)), fmt.Sprint(b.Header(1)); h != g {
		t.Errorf("P2: two ledgers, made alike, answer %q and %q", h, g)
	}
}
