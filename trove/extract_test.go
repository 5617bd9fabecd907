package trove_test

import (
	"math/rand"
	"slices"
	"testing"

	"trove/api"
	"trove/trove"
)

// forged is a proof for a key that begins as another does, and goes on by chance.
func forged(r *rand.Rand, width int, key string, like claim) claim {
	kept := r.Intn(len(like.bits) + 1)
	p := claim{bits: slices.Clone(like.bits[:kept]), others: slices.Clone(like.others[:kept]), key: key}
	b := -1
	if kept > 0 {
		b = p.bits[kept-1]
	}
	for range r.Intn(3) {
		b += 1 + r.Intn(4)
		if b < 8*(width+1) {
			p.bits, p.others = append(p.bits, b), append(p.others, num(r.Uint64()>>(64-8*width), width))
		}
	}
	if r.Intn(2) == 0 {
		p.key = turned(r, width, p)
	}
	p.out = out(r.Uint64()>>r.Intn(64), uint8(r.Intn(256)))
	return p
}

// turned is a key that is a proof's own at the proof's numbers b, and else any.
func turned(r *rand.Rand, width int, p claim) string {
	key := []byte(p.key)
	for i := range 8*width + 8 {
		if !slices.Contains(p.bits, i) && r.Intn(3) == 0 {
			key[i/8] ^= 0x80 >> (i % 8)
		}
	}
	key[width] = p.key[width]
	return string(key)
}

// holding are proofs for a coin that hold by a header: the ledger's own, and such as are found by chance.
func holding(t *testing.T, r *rand.Rand, l *trove.Ledger, m *model, height int, c api.Coin) []string {
	t.Helper()
	own, e := l.Query(height, c)
	if e != api.OK {
		t.Fatalf("P8: Query = %d", e)
	}
	like, _ := claimOf(m.width, own)
	proofs := []string{own}
	for range 3000 {
		p := forged(r, m.width, keyOf(c), like).text()
		kind, o := modelVerify(m.width, m.headers[height], c, p)
		says(t, "a forged proof", m.width, m.headers[height], c, p, kind, o)
		if kind != api.Bad {
			proofs = append(proofs, p)
		}
	}
	return proofs
}

// TestP10AgainstTheModel takes digests of one byte, where proofs that contradict each other are soon found.
func TestP10AgainstTheModel(t *testing.T) {
	made, letters, depths := 0, map[string]int{}, map[int]int{}
	for seed := range int64(30) {
		r := rand.New(rand.NewSource(seed))
		l, m := grown(t, 1, r, 25)
		coins := coinsOf(m, r)
		height := r.Intn(len(m.headers))
		c := coins[r.Intn(len(coins))]
		proofs := holding(t, r, l, m, height, c)
		for _, p := range proofs {
			for _, q := range proofs {
				x, y, ok := trove.Extract(1, m.headers[height], c, p, q)
				wantX, wantY, want := modelExtract(1, m.headers[height], c, p, q)
				if x != wantX || y != wantY || ok != want {
					t.Fatalf("P10: Extract of %x and %x = %x, %x, %v, want %x, %x, %v", p, q, x, y, ok, wantX, wantY, want)
				}
				if !ok {
					continue
				}
				if x == y || hash(1, x) != hash(1, y) {
					t.Fatalf("P10: Extract makes %x and %x", x, y)
				}
				a, _ := claimOf(1, p)
				depths[slices.Index(a.nodes(1), x)]++
				letters[x[:1]+y[:1]]++
				made++
			}
		}
	}
	t.Logf("%d pairs of texts: %v, at the depths %v", made, letters, depths)
	for _, pair := range []string{"LL", "LN", "NL", "NN"} {
		if letters[pair] == 0 {
			t.Errorf("no texts of the kinds %s were made", pair)
		}
	}
	if depths[0] == 0 || depths[1] == 0 || depths[2] == 0 {
		t.Errorf("not all depths were tried: %v", depths)
	}
}

func extractsNothing(t *testing.T, what string, width int, header string, c api.Coin, p, q string) {
	t.Helper()
	if x, y, ok := trove.Extract(width, header, c, p, q); ok || x != "" || y != "" {
		t.Errorf("P10: Extract of %s = %x, %x, %v", what, x, y, ok)
	}
}

func TestP10ProofsThatSayTheSameOrAreBad(t *testing.T) {
	for _, width := range []int{1, 3, 32} {
		r := rand.New(rand.NewSource(int64(width)))
		l, m := grown(t, width, r, 25)
		coins := coinsOf(m, r)
		for _, c := range coins {
			height := r.Intn(len(m.headers))
			header := m.headers[height]
			p, _ := l.Query(height, c)
			bad := p + "\x00"
			extractsNothing(t, "one proof twice", width, header, c, p, p)
			extractsNothing(t, "a good and a bad one", width, header, c, p, bad)
			extractsNothing(t, "a bad and a good one", width, header, c, bad, p)
			extractsNothing(t, "two bad ones", width, header, c, bad, "")
			extractsNothing(t, "no width", 0, header, c, p, p)
			extractsNothing(t, "no header", width, header[1:], c, p, p)
			extractsNothing(t, "no coin", width, header, api.Coin{Tx: c.Tx, N: 3}, p, p)
		}
	}
	for _, width := range []int{-1 << 63, -1, 0, 33, 1<<63 - 1} {
		extractsNothing(t, "nothing at all", width, "", api.Coin{}, "", "")
	}
}

// meetingAmount looks for an amount with which a leaf of a key has a digest of one byte.
func meetingAmount(t *testing.T, key string, want string, from uint64) uint64 {
	t.Helper()
	for amount := from; amount < from+100000; amount++ {
		if hash(1, leafText(key, out(amount, 1))) == want {
			return amount
		}
	}
	t.Fatalf("no leaf of %x has the digest %x", key, want)
	return 0
}

// TestP10DifferentProofsThatSayTheSame has proofs whose nodes are different, but not what they say.
func TestP10DifferentProofsThatSayTheSame(t *testing.T) {
	key, near := "k\x00", "k\x01"
	c := coinOf(key)
	state := hash(1, leafText(key, out(5, 1)))
	header := headerOf(1, state)
	leaf := func(key string, amount uint64) string { return claim{key: key, out: out(amount, 1)}.text() }
	x := meetingAmount(t, near, state, 0)
	y := meetingAmount(t, near, state, x+1)
	says(t, "a leaf", 1, header, c, leaf(near, x), api.Absent, api.Out{})
	says(t, "a leaf", 1, header, c, leaf(near, y), api.Absent, api.Out{})
	extractsNothing(t, "Absent twice, by different leaves", 1, header, c, leaf(near, x), leaf(near, y))
	z := meetingAmount(t, key, state, 6)
	if a, b, ok := trove.Extract(1, header, c, leaf(key, z), leaf(key, 5)); !ok || a != leafText(key, out(z, 1)) || b != leafText(key, out(5, 1)) {
		t.Errorf("P10: Extract of two outputs = %x, %x, %v", a, b, ok)
	}
	if a, b, ok := trove.Extract(1, header, c, leaf(near, x), leaf(key, 5)); !ok || a != leafText(near, out(x, 1)) || b != leafText(key, out(5, 1)) {
		t.Errorf("P10: Extract of Absent and There = %x, %x, %v", a, b, ok)
	}
	// The same leaf below a branch: There with the same output.
	for other := range 256 {
		p := claim{bits: []int{3}, others: []string{num(uint64(other), 1)}, key: key, out: out(5, 1)}
		if hash(1, p.nodes(1)[0]) == state {
			says(t, "a leaf below a branch", 1, header, c, p.text(), api.There, out(5, 1))
			extractsNothing(t, "There twice, by different ways", 1, header, c, p.text(), leaf(key, 5))
			return
		}
	}
	t.Error("no branch meets the leaf")
}

// TestP10NoCoins: where the digest of E is that of a leaf or a branch too.
func TestP10NoCoins(t *testing.T) {
	key, near, none := "k\x00", "k\x01", claim{none: true}.text()
	c, state := coinOf(key), hash(1, "E")
	header := headerOf(1, state)
	there := claim{key: key, out: out(meetingAmount(t, key, state, 0), 1)}
	absent := claim{key: near, out: out(meetingAmount(t, near, state, 0), 1)}
	below := claim{bits: []int{15}, others: []string{"o"}, key: key, out: out(0, 1)}
	for hash(1, below.nodes(1)[0]) != state {
		below.out.Amount++
	}
	for _, p := range []claim{there, below} {
		says(t, "a coin where no coins are too", 1, header, c, p.text(), api.There, p.out)
		if a, b, ok := trove.Extract(1, header, c, none, p.text()); !ok || a != "E" || b != p.nodes(1)[0] {
			t.Errorf("P10: Extract of no coins and a coin = %x, %x, %v", a, b, ok)
		}
		if a, b, ok := trove.Extract(1, header, c, p.text(), none); !ok || a != p.nodes(1)[0] || b != "E" {
			t.Errorf("P10: Extract of a coin and no coins = %x, %x, %v", a, b, ok)
		}
	}
	says(t, "no coins", 1, header, c, none, api.Absent, api.Out{})
	says(t, "another coin", 1, header, c, absent.text(), api.Absent, api.Out{})
	extractsNothing(t, "no coins, and another coin", 1, header, c, none, absent.text())
	extractsNothing(t, "another coin, and no coins", 1, header, c, absent.text(), none)
}

// TestP10ThereWithAnOutputOfNothing: There with a zero output and Absent are not the same.
func TestP10ThereWithAnOutputOfNothing(t *testing.T) {
	key, near := "k\x00", "k\x02"
	state := hash(1, leafText(key, api.Out{}))
	header := headerOf(1, state)
	there := claim{key: key}.text()
	absent := claim{key: near, out: out(meetingAmount(t, near, state, 0), 1)}
	says(t, "a zero output", 1, header, coinOf(key), there, api.There, api.Out{})
	if a, b, ok := trove.Extract(1, header, coinOf(key), there, absent.text()); !ok || a != leafText(key, api.Out{}) || b != leafText(near, absent.out) {
		t.Errorf("P10: Extract of There with nothing, and Absent = %x, %x, %v", a, b, ok)
	}
}
