package trove_test

import (
	"math"
	"math/rand"
	"slices"
	"strings"
	"testing"

	"trove/api"
	"trove/trove"
)

func coinOf(key string) api.Coin {
	return api.Coin{Tx: key[:len(key)-1], N: int(key[len(key)-1])}
}

// headerOf is a header of a state's digest; whatever else it tells, is nothing to a proof.
func headerOf(width int, state string) string { return strings.Repeat("h", 4+2*width) + state }

func says(t *testing.T, what string, width int, header string, c api.Coin, proof string, kind int, o api.Out) {
	t.Helper()
	if k, x := trove.Verify(width, header, c, proof); k != kind || x != o {
		t.Errorf("P9: width %d: Verify of %s = %d, %v, want %d, %v", width, what, k, x, kind, o)
	}
}

func checkQuery(t *testing.T, l *trove.Ledger, m *model, height int, c api.Coin) {
	t.Helper()
	p, e := l.Query(height, c)
	want, wantE := m.query(height, c)
	if p != want || e != wantE {
		t.Fatalf("P8: width %d: Query(%d, %x) = %x, %d, want %x, %d", m.width, height, c, p, e, want, wantE)
	}
}

// grown is a ledger with some blocks, taken by chance, and its model.
func grown(t *testing.T, width int, r *rand.Rand, blocks int) (*trove.Ledger, *model) {
	t.Helper()
	outs := make([]api.Out, 1+r.Intn(3))
	for i := range outs {
		outs[i] = api.Out{Amount: r.Uint64() >> 2, Owner: uint8(i)}
	}
	l, m := ledger(t, width, outs...), newModel(width, outs)
	k := maker{r, m}
	for range blocks {
		block, e := m.seal(k.txs())
		if e != api.OK {
			continue
		}
		if l.Submit(block) != api.OK || m.submit(block) != api.OK {
			t.Fatalf("P7: width %d: the block %x is refused", width, block)
		}
	}
	return l, m
}

// coinsOf are all coins that a model ever had, and some that it had not: of no id, and next to one.
func coinsOf(m *model, r *rand.Rand) []api.Coin {
	var coins []api.Coin
	for _, state := range m.states {
		for key := range state {
			coins = append(coins, coinOf(key))
		}
	}
	slices.SortFunc(coins, func(a, b api.Coin) int { return strings.Compare(keyOf(a), keyOf(b)) })
	coins = slices.Compact(coins)
	for _, c := range slices.Clone(coins) {
		id := []byte(c.Tx)
		id[r.Intn(len(id))] ^= 1 << r.Intn(8)
		coins = append(coins, api.Coin{Tx: string(id), N: r.Intn(3)})
	}
	return append(coins, api.Coin{Tx: strings.Repeat("\x00", m.width)}, api.Coin{Tx: strings.Repeat("\xff", m.width), N: 2})
}

func TestP8P9AgainstTheModel(t *testing.T) {
	seen := map[int]int{}
	for _, width := range []int{1, 1, 1, 2, 3, 8, 31, 32} {
		for seed := range int64(4) {
			r := rand.New(rand.NewSource(seed*100 + int64(width)))
			l, m := grown(t, width, r, 40)
			coins := coinsOf(m, r)
			for height, header := range m.headers {
				for range 40 {
					c := coins[r.Intn(len(coins))]
					checkQuery(t, l, m, height, c)
					p, _ := l.Query(height, c)
					o, there := m.states[height][keyOf(c)]
					kind := api.Absent
					if there {
						kind = api.There
					}
					says(t, "Query's proof", width, header, c, p, kind, o)
					seen[kind]++
					if n := value(p[:2]); n > uint64(8*(width+1)) {
						t.Errorf("P16: width %d: a proof has %d numbers b", width, n)
					}
				}
			}
			checkAlike(t, l, m)
		}
	}
	if seen[api.There] < 1000 || seen[api.Absent] < 1000 {
		t.Errorf("There and Absent were not tried: %v", seen)
	}
}

func TestP8DocumentsExample(t *testing.T) {
	first := []api.Out{out(5, 1)}
	l := ledger(t, 32, first...)
	c := firstCoin(32, 0, first)
	header, _ := l.Header(0)
	want := "\x00\x00" + c.Tx + "\x00" + "\x00\x00\x00\x00\x00\x00\x00\x05\x01"
	for n := range 3 {
		if p, e := l.Query(0, api.Coin{Tx: c.Tx, N: n}); p != want || len(p) != 44 || e != api.OK {
			t.Errorf("P8: Query(0, the coin with N %d) = %x, %d, want %x", n, p, e, want)
		}
	}
	says(t, "the coin", 32, header, c, want, api.There, out(5, 1))
	says(t, "the id with N 1", 32, header, api.Coin{Tx: c.Tx, N: 1}, want, api.Absent, api.Out{})
}

func TestP8RangeComesAheadOfForm(t *testing.T) {
	r := rand.New(rand.NewSource(1))
	l, m := grown(t, 4, r, 10)
	good := coinsOf(m, r)[0]
	bad := []api.Coin{
		{}, {Tx: good.Tx[1:]}, {Tx: good.Tx + "\x00"}, {Tx: good.Tx, N: -1}, {Tx: good.Tx, N: 3}, {Tx: good.Tx, N: 256},
		{Tx: good.Tx, N: math.MaxInt}, {Tx: good.Tx, N: math.MinInt}, {Tx: strings.Repeat("a", 1<<20)},
	}
	for _, height := range []int{-1, m.tip() + 1, math.MaxInt, math.MinInt, 1 << 32} {
		for _, c := range append(bad, good) {
			if p, e := l.Query(height, c); p != "" || e != api.ErrRange {
				t.Errorf("P8: Query(%d, ..) = %x, %d, want ErrRange", height, p, e)
			}
		}
	}
	for _, height := range []int{0, 1, m.tip()} {
		for _, c := range bad {
			if p, e := l.Query(height, c); p != "" || e != api.ErrForm {
				t.Errorf("P8: Query(%d, %.20v) = %x, %d, want ErrForm", height, c, p, e)
			}
		}
		if p, e := l.Query(height, good); p == "" || e != api.OK {
			t.Errorf("P8: Query(%d, a coin) = %x, %d", height, p, e)
		}
	}
}

func TestP8NoCoins(t *testing.T) {
	for _, width := range []int{1, 7, 32} {
		first := []api.Out{out(5, 1)}
		l := ledger(t, width, first...)
		c := firstCoin(width, 0, first)
		take(t, l, pay(c))
		header, _ := l.Header(1)
		if p, e := l.Query(1, c); p != "\x00\x00" || e != api.OK {
			t.Errorf("P8: Query where there are no coins = %x, %d", p, e)
		}
		if p, e := l.Query(1, api.Coin{Tx: c.Tx, N: 3}); p != "" || e != api.ErrForm {
			t.Errorf("P8: Query of no coin where there are no coins = %x, %d", p, e)
		}
		says(t, "no coins", width, header, c, "\x00\x00", api.Absent, api.Out{})
		for _, p := range []string{
			"", "\x00", "\x00\x00\x00", "\x00\x01", "\x01\x00", "\x00\x00" + keyOf(c),
			"\x00\x01\x00\x03" + c.Tx, "\x00\x02\x00\x03" + c.Tx + "\x00\x04" + c.Tx,
		} {
			says(t, "no coins, with other bytes", width, header, c, p, api.Bad, api.Out{})
		}
		// The heights ahead have their own states still.
		header, _ = l.Header(0)
		p, _ := l.Query(0, c)
		says(t, "the coin, ahead of its spending", width, header, c, p, api.There, first[0])
	}
}

// longest is a proof with all numbers b that there are.
func longest(width int, key string) claim {
	p := claim{key: key, out: out(math.MaxUint64, 255)}
	for b := range 8 * (width + 1) {
		p.bits = append(p.bits, b)
		p.others = append(p.others, hash(width, num(uint64(b), 2)))
	}
	return p
}

func TestP9TheLongestProof(t *testing.T) {
	for width := 1; width <= api.MaxWidth; width++ {
		key := hash(32, "key")[:width] + "\x02"
		p := longest(width, key)
		header := headerOf(width, hash(width, p.nodes(width)[0]))
		says(t, "all numbers b", width, header, coinOf(key), p.text(), api.There, p.out)
		says(t, "all numbers b, of another N", width, header, api.Coin{Tx: key[:width], N: 1}, p.text(), api.Bad, api.Out{})
	}
}

// TestP9NumbersThatMayNotBe has proofs whose digest is the header's, so that it is the numbers alone that are wrong.
func TestP9NumbersThatMayNotBe(t *testing.T) {
	for _, width := range []int{1, 2, 31, 32} {
		last := 8*width + 7
		key := strings.Repeat("\x5a", width) + "\x01"
		other := strings.Repeat("o", width)
		for _, x := range []struct {
			bits []int
			kind int
		}{
			{nil, api.There},
			{[]int{0}, api.There},
			{[]int{last}, api.There},
			{[]int{0, 1, last - 1, last}, api.There},
			{[]int{8*width - 1, 8 * width}, api.There},
			{[]int{0, 0}, api.Bad},
			{[]int{last, last}, api.Bad},
			{[]int{1, 0}, api.Bad},
			{[]int{3, 7, 6}, api.Bad},
			{[]int{3, 7, 7, 8}, api.Bad},
			{[]int{7, 3, 8, 9}, api.Bad},
			{[]int{0, last, 1}, api.Bad},
		} {
			p := claim{bits: x.bits, key: key, out: out(9, 9)}
			for range x.bits {
				p.others = append(p.others, other)
			}
			want := api.Out{}
			if x.kind == api.There {
				want = p.out
			}
			header := headerOf(width, hash(width, p.nodes(width)[0]))
			says(t, "a proof with these numbers b", width, header, coinOf(key), p.text(), x.kind, want)
			if t.Failed() {
				t.Fatalf("the numbers b are %v", x.bits)
			}
		}
	}
}

func TestP9BitsAboveTheKey(t *testing.T) {
	for _, width := range []int{1, 5, 32} {
		key := strings.Repeat("\x5a", width) + "\x01"
		other := strings.Repeat("o", width)
		for _, b := range []int{8 * (width + 1), 8*(width+1) + 1, 1 << 8, 1 << 15, 1<<16 - 1} {
			if b < 8*(width+1) {
				continue
			}
			below := hash(width, leafText(key, out(9, 9)))
			for _, state := range []string{hash(width, branchText(b, below, other)), hash(width, branchText(b, other, below))} {
				proof := num(1, 2) + num(uint64(b), 2) + other + key + outText(out(9, 9))
				says(t, "a bit that no key has", width, headerOf(width, state), coinOf(key), proof, api.Bad, api.Out{})
			}
		}
	}
}

func TestP9KeysThatAreNone(t *testing.T) {
	for _, width := range []int{1, 4, 32} {
		id := strings.Repeat("k", width)
		for n := range 256 {
			key := id + string([]byte{byte(n)})
			header := headerOf(width, hash(width, leafText(key, out(7, 7))))
			kind, want := api.Bad, api.Out{}
			switch {
			case n == 1:
				kind, want = api.There, out(7, 7)
			case n < 3:
				kind = api.Absent
			}
			says(t, "a proof of some key", width, header, api.Coin{Tx: id, N: 1}, "\x00\x00"+key+outText(out(7, 7)), kind, want)
		}
	}
}

func TestP9ThingsThatAreNone(t *testing.T) {
	for _, width := range []int{1, 2, 32} {
		l, m := grown(t, width, rand.New(rand.NewSource(5)), 20)
		header := m.headers[m.tip()]
		for key, o := range m.state {
			c := coinOf(key)
			p, _ := l.Query(m.tip(), c)
			says(t, "a good proof", width, header, c, p, api.There, o)
			says(t, "a good proof, by another header of the same state", width, headerOf(width, header[4+2*width:]), c, p, api.There, o)
			for _, w := range []int{width - 1, width + 1, 0, -1, 33, math.MaxInt, math.MinInt, width + 256, -width} {
				says(t, "another width", w, header, c, p, api.Bad, api.Out{})
			}
			for _, h := range []string{"", header[1:], header[:len(header)-1], header + "\x00", "\x00" + header, header + header} {
				says(t, "no header", width, h, c, p, api.Bad, api.Out{})
			}
			for _, k := range []api.Coin{{}, {Tx: c.Tx[1:], N: c.N}, {Tx: c.Tx + "a", N: c.N}, {Tx: c.Tx, N: -1}, {Tx: c.Tx, N: 3}, {Tx: c.Tx, N: c.N + 256}, {Tx: c.Tx, N: math.MinInt}} {
				says(t, "no coin", width, header, k, p, api.Bad, api.Out{})
			}
			for n := range p {
				says(t, "a first part", width, header, c, p[:n], api.Bad, api.Out{})
				says(t, "a last part", width, header, c, p[n+1:], api.Bad, api.Out{})
			}
			for _, more := range []string{"\x00", p, strings.Repeat("\x00", 2+width)} {
				says(t, "more behind", width, header, c, p+more, api.Bad, api.Out{})
			}
		}
	}
	// All that a ledger of these widths would have, if they were widths.
	for _, width := range []int{0, 33, 34, 64, 256} {
		id := strings.Repeat("a", width)
		digest := hash(min(width, 32), "E") + strings.Repeat("\x00", max(width-32, 0))
		says(t, "no coins, of no width", width, headerOf(width, digest), api.Coin{Tx: id}, "\x00\x00", api.Bad, api.Out{})
		digest = hash(min(width, 32), leafText(id+"\x00", out(1, 1))) + strings.Repeat("\x00", max(width-32, 0))
		says(t, "a leaf, of no width", width, headerOf(width, digest), api.Coin{Tx: id}, "\x00\x00"+id+"\x00"+outText(out(1, 1)), api.Bad, api.Out{})
	}
	for _, s := range []string{"", "\x00\x00", "\xff\xff", strings.Repeat("\x00", 1<<16)} {
		says(t, "nothing at all", 0, s, api.Coin{}, s, api.Bad, api.Out{})
		says(t, "nothing at all", -1, s, api.Coin{Tx: s}, s, api.Bad, api.Out{})
		says(t, "nothing at all", 32, s, api.Coin{Tx: s}, s, api.Bad, api.Out{})
	}
	says(t, "a great number of steps", 32, headerOf(32, hash(32, "E")), api.Coin{Tx: strings.Repeat("a", 32)},
		"\xff\xff"+strings.Repeat("\x00", 65535*34+42), api.Bad, api.Out{})
}

// spoiledProof is a proof with something changed.
func spoiledProof(r *rand.Rand, p string) string {
	b := []byte(p)
	for range 1 + r.Intn(2) {
		b[r.Intn(len(b))] ^= 1 << r.Intn(8)
	}
	switch r.Intn(8) {
	case 0:
		b = b[:r.Intn(len(b))]
	case 1:
		b = append(b, 0)
	}
	return string(b)
}

func TestP9SpoiledProofsAgainstTheModel(t *testing.T) {
	seen := map[int]int{}
	for _, width := range []int{1, 1, 1, 2, 32} {
		for seed := range int64(4) {
			r := rand.New(rand.NewSource(seed*1000 + int64(width)))
			l, m := grown(t, width, r, 30)
			coins := coinsOf(m, r)
			for range 3000 {
				c, asked, height := coins[r.Intn(len(coins))], coins[r.Intn(len(coins))], r.Intn(len(m.headers))
				if r.Intn(2) == 0 {
					asked = c
				}
				p, _ := l.Query(height, c)
				header := m.headers[r.Intn(len(m.headers))]
				if r.Intn(4) > 0 {
					header = m.headers[height]
				}
				if r.Intn(3) > 0 {
					p = spoiledProof(r, p)
				}
				kind, o := modelVerify(width, header, asked, p)
				says(t, "a spoiled proof", width, header, asked, p, kind, o)
				seen[kind]++
			}
		}
	}
	if seen[api.There] < 100 || seen[api.Absent] < 100 || seen[api.Bad] < 100 {
		t.Errorf("not all was tried: %v", seen)
	}
}
