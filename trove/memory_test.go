package trove_test

import (
	"math/rand"
	"reflect"
	"testing"
	"unsafe"

	"trove/api"
	"trove/trove"
)

// lent is a text whose bytes can be written over later.
func lent(s string) (string, []byte) {
	b := []byte(s)
	return unsafe.String(&b[0], len(b)), b
}

// roomy is a list with spare room, in which something stands.
func roomy[T any](mark T, items ...T) []T {
	whole := append(append([]T{}, items...), mark, mark)
	return whole[:len(items)]
}

// whole is a list with its spare room.
func whole[T any](list []T) []T { return list[:cap(list)] }

func TestP2NewKeepsAndWritesNothing(t *testing.T) {
	mark := out(77, 7)
	outs := roomy(mark, out(5, 1), out(6, 2))
	before := append([]api.Out{}, whole(outs)...)
	l := ledger(t, 32, outs...)
	if !reflect.DeepEqual(whole(outs), before) {
		t.Errorf("P2: New wrote into what was handed in: %v", whole(outs))
	}
	m := newModel(32, []api.Out{out(5, 1), out(6, 2)})
	c := firstCoin(32, 0, outs)
	clear(whole(outs))
	checkAlike(t, l, m)
	if e := m.submit(take(t, l, pay(c, out(5, 9)))); e != api.OK {
		t.Errorf("P2: New kept what was handed in: the block is refused: %d", e)
	}
}

func TestP2SealKeepsAndWritesNothing(t *testing.T) {
	first := []api.Out{out(5, 1), out(6, 2)}
	l, m := ledger(t, 32, first...), newModel(32, first)
	markCoin := api.Coin{Tx: "mark", N: 9}
	id, bytes := lent(firstCoin(32, 0, first).Tx)
	ins := roomy(markCoin, api.Coin{Tx: id, N: 0}, api.Coin{Tx: id, N: 1})
	outs := roomy(out(77, 7), out(4, 4))
	txs := roomy(api.Tx{Ins: []api.Coin{markCoin}}, api.Tx{Ins: ins, Outs: outs})
	want, _ := m.seal(txs)
	for range 2 {
		if got, e := l.Seal(txs); got != want || e != api.OK {
			t.Fatalf("P2: Seal = %x, %d, want %x", got, e, want)
		}
	}
	got, _ := l.Seal(txs)
	if !reflect.DeepEqual(whole(ins)[2:], []api.Coin{markCoin, markCoin}) ||
		!reflect.DeepEqual(whole(outs), []api.Out{out(4, 4), out(77, 7), out(77, 7)}) ||
		!reflect.DeepEqual(whole(txs)[1], api.Tx{Ins: []api.Coin{markCoin}}) ||
		ins[0].Tx != firstCoin(32, 0, first).Tx || ins[0].N != 0 || ins[1].N != 1 {
		t.Errorf("P2: Seal wrote into what was handed in: %v, %v, %v", whole(ins), whole(outs), whole(txs))
	}
	clear(bytes)
	clear(outs)
	if got != want {
		t.Errorf("P2: what Seal answered shares memory with what was handed in")
	}
	if e := l.Submit(got); e != api.OK {
		t.Errorf("P7: Submit = %d", e)
	}
}

func TestP2SubmitKeepsNothing(t *testing.T) {
	first := []api.Out{out(5, 1)}
	l, m := ledger(t, 8, first...), newModel(8, first)
	x := pay(firstCoin(8, 0, first), out(3, 1), out(2, 2))
	sealed, _ := m.seal([]api.Tx{x})
	m.submit(sealed)
	block, bytes := lent(sealed)
	if e := l.Submit(block); e != api.OK {
		t.Fatalf("P7: Submit = %d", e)
	}
	clear(bytes)
	checkAlike(t, l, m)
	if e := m.submit(take(t, l, pay(madeCoin(8, x, 1), out(1, 1)))); e != api.OK {
		t.Errorf("P2: Submit kept what was handed in: the next block is refused: %d", e)
	}
	checkAlike(t, l, m)
}

func TestP2DigestSharesNothing(t *testing.T) {
	s, bytes := lent("abc")
	d, _ := trove.Digest(3, s)
	clear(bytes)
	if d != "\xba\x78\x16" {
		t.Errorf("P2: the digest changed with what was handed in: %x", d)
	}
}

func TestP2QueryKeepsNothingAndAnswersAlike(t *testing.T) {
	l, m := grown(t, 8, rand.New(rand.NewSource(3)), 20)
	for key := range m.state {
		c := coinOf(key)
		want, _ := m.query(m.tip(), c)
		id, bytes := lent(c.Tx)
		first, _ := l.Query(m.tip(), api.Coin{Tx: id, N: c.N})
		clear(bytes)
		second, _ := l.Query(m.tip(), c)
		if first != want || second != want {
			t.Errorf("P2: Query answers %x, and then %x, want %x", first, second, want)
		}
	}
	checkAlike(t, l, m)
}

func TestP2ExtractSharesNothing(t *testing.T) {
	key, near := "k\x00", "k\x01"
	state := hash(1, leafText(key, out(5, 1)))
	wantP, wantQ := leafText(key, out(5, 1)), leafText(near, out(meetingAmount(t, near, state, 0), 1))
	p, pBytes := lent("\x00\x00" + wantP[1:])
	q, qBytes := lent("\x00\x00" + wantQ[1:])
	header, headerBytes := lent(headerOf(1, state))
	id, idBytes := lent("k")
	a, b, ok := trove.Extract(1, header, api.Coin{Tx: id, N: 0}, p, q)
	for _, lentBytes := range [][]byte{pBytes, qBytes, headerBytes, idBytes} {
		clear(lentBytes)
	}
	if !ok || a != wantP || b != wantQ {
		t.Errorf("P2: Extract = %x, %x, %v, want %x, %x", a, b, ok, wantP, wantQ)
	}
}

func TestP2DifferSharesNothing(t *testing.T) {
	l, m := grown(t, 8, rand.New(rand.NewSource(4)), 12)
	want := changed(m.states[0], m.state)
	text, _ := l.Delta(0, m.tip())
	p, pBytes := lent(text)
	before, beforeBytes := lent(m.headers[0])
	after, afterBytes := lent(m.headers[m.tip()])
	first, ok := trove.Differ(8, before, after, p)
	second, again := trove.Differ(8, before, after, p)
	if p != text || before != m.headers[0] || after != m.headers[m.tip()] {
		t.Errorf("P2: Differ wrote into what was handed in")
	}
	for _, lentBytes := range [][]byte{pBytes, beforeBytes, afterBytes} {
		clear(lentBytes)
	}
	if !ok || !again || len(want) < 3 || !reflect.DeepEqual(first, want) {
		t.Errorf("P2: Differ = %v, %v, want %v", first, ok, want)
	}
	clear(whole(first))
	if !reflect.DeepEqual(second, want) {
		t.Errorf("P2: two answers of Differ share memory: %v, want %v", second, want)
	}
}

func TestP2DeltaAnswersAlike(t *testing.T) {
	for _, width := range []int{1, 32} {
		l, m := grown(t, width, rand.New(rand.NewSource(6)), 20)
		first := checkDelta(t, l, m, 0, m.tip())
		stored := l.Stored()
		for range 20 {
			if again, _ := l.Delta(0, m.tip()); again != first {
				t.Fatalf("P2: Delta answers %x, and then %x", first, again)
			}
			if l.Stored() != stored {
				t.Fatalf("P2: Stored answers %d, and then %d", stored, l.Stored())
			}
		}
		checkAlike(t, l, m)
	}
}

func TestP2PruneOfOneLedgerAlone(t *testing.T) {
	l, m := grown(t, 8, rand.New(rand.NewSource(9)), 10)
	other, _ := grown(t, 8, rand.New(rand.NewSource(9)), 10)
	l.Prune(m.tip())
	checkKept(t, rand.New(rand.NewSource(1)), other, m)
}

func TestP2LedgersDoNotMeet(t *testing.T) {
	first := []api.Out{out(5, 1)}
	a, b := ledger(t, 8, first...), ledger(t, 8, first...)
	take(t, a, pay(firstCoin(8, 0, first)))
	checkAlike(t, b, newModel(8, first))
	take(t, b, pay(firstCoin(8, 0, first), out(5, 2)))
}

func TestP2OpenKeepsNothing(t *testing.T) {
	for _, width := range []int{2, 32} {
		_, m := pruned(t, width, rand.New(rand.NewSource(int64(width))), 12)
		log, bytes := lent(m.log)
		l, place, e := trove.Open(log)
		if l == nil || place != len(m.log) || e != api.OK || log != m.log {
			t.Fatalf("P15: Open of a log = %v, %d, %d", l != nil, place, e)
		}
		clear(bytes)
		r := rand.New(rand.NewSource(1))
		checkKept(t, r, l, m)
		if e := m.submit(take(t, l)); e != api.OK {
			t.Errorf("P2: Open kept what was handed in: the next block is refused: %d", e)
		}
		checkKept(t, r, l, m)
	}
}

func TestP2SubmitKeepsNothingForTheLog(t *testing.T) {
	l, m := ledger(t, 8, out(5, 1)), newModel(8, []api.Out{out(5, 1)})
	for range 3 {
		sealed, _ := m.seal(nil)
		m.submit(sealed)
		block, bytes := lent(sealed)
		if e := l.Submit(block); e != api.OK {
			t.Fatalf("P7: Submit = %d", e)
		}
		clear(bytes)
		checkAlike(t, l, m)
	}
}

// TestP2LogsStay has logs of many lengths: what was told is not written into by what is put down behind it.
func TestP2LogsStay(t *testing.T) {
	l := ledger(t, 1, out(5, 1))
	var logs []string
	for range 50 {
		logs = append(logs, l.Log())
		take(t, l)
		logs = append(logs, l.Log())
		l.Prune(l.Tip())
	}
	whole := l.Log()
	for i, log := range logs {
		if log != whole[:len(log)] || i > 0 && len(log) <= len(logs[i-1]) {
			t.Fatalf("P2: a log that was told is now %x, want the beginning of %x", log, whole)
		}
	}
	if again := l.Log(); again != whole {
		t.Errorf("P2: Log() answers %x, and then %x", whole, again)
	}
}

func TestP2LedgersOfOneLogDoNotMeet(t *testing.T) {
	_, m := pruned(t, 4, rand.New(rand.NewSource(2)), 10)
	a, _, _ := trove.Open(m.log)
	b, _, _ := trove.Open(m.log)
	take(t, a)
	if e := a.Prune(a.Tip()); e != api.OK {
		t.Errorf("P13: Prune = %d", e)
	}
	checkKept(t, rand.New(rand.NewSource(1)), b, m)
	m.submit(take(t, b))
	checkKept(t, rand.New(rand.NewSource(1)), b, m)
}
