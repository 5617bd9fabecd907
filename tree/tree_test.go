package tree

import (
	"crypto/sha256"
	"errors"
	"fmt"
	"maps"
	"math/rand"
	"slices"
	"strings"
	"testing"

	"trove/api"
	"trove/fault"
)

func hash(width int, s string) string {
	d := sha256.Sum256([]byte(s))
	return string(d[:width])
}

func keyOf(c api.Coin) string { return c.Tx + string([]byte{byte(c.N)}) }

// bitText tells a key as a text of 0 and 1.
func bitText(key string) string {
	var s strings.Builder
	for i := range len(key) {
		fmt.Fprintf(&s, "%08b", key[i])
	}
	return s.String()
}

// rootOf works the digest of a state out as the document says it, from all its coins at once.
func rootOf(width int, state map[string]string) string {
	if len(state) == 0 {
		return hash(width, "E")
	}
	keys := slices.Sorted(maps.Keys(state))
	if len(keys) == 1 {
		return hash(width, "L"+keys[0]+state[keys[0]])
	}
	least, greatest := bitText(keys[0]), bitText(keys[len(keys)-1])
	b := 0
	for least[b] == greatest[b] {
		b++
	}
	sides := [2]map[string]string{{}, {}}
	for _, key := range keys {
		sides[bitText(key)[b]-'0'][key] = state[key]
	}
	return hash(width, "N"+string([]byte{byte(b >> 8), byte(b)})+rootOf(width, sides[0])+rootOf(width, sides[1]))
}

func outText(o api.Out) string {
	s := ""
	for i := 7; i >= 0; i-- {
		s += string([]byte{byte(o.Amount >> (8 * i))})
	}
	return s + string([]byte{o.Owner})
}

func TestTreeAgainstTheDocument(t *testing.T) {
	for _, width := range []int{1, 2, 32} {
		r := rand.New(rand.NewSource(int64(width)))
		tree, state, outs := Empty(width), map[string]string{}, map[string]api.Out{}
		coins := someCoins(r, width)
		for step := range 600 {
			c := coins[r.Intn(len(coins))]
			out := api.Out{Amount: r.Uint64(), Owner: uint8(r.Intn(256))}
			_, there := state[keyOf(c)]
			before := tree.Digest()
			if r.Intn(2) == 0 {
				next, err := tree.With(c, out)
				if there != errors.Is(err, fault.Exists) || (err != nil) != there {
					t.Fatalf("With a coin that is there (%v): %v", there, err)
				}
				if err == nil {
					checkSame(t, tree, before)
					tree, state[keyOf(c)], outs[keyOf(c)] = next, outText(out), out
				}
			} else {
				next, old, err := tree.Without(c)
				if there == errors.Is(err, fault.Input) || (err == nil) != there {
					t.Fatalf("Without a coin that is there (%v): %v", there, err)
				}
				if err == nil {
					checkSame(t, tree, before)
					if old != outs[keyOf(c)] {
						t.Fatalf("Without tells the output %v, want %v", old, outs[keyOf(c)])
					}
					tree = next
					delete(state, keyOf(c))
				}
			}
			if got, want := tree.Digest(), rootOf(width, state); got != want {
				t.Fatalf("width %d, step %d, %d coins: digest %x, want %x", width, step, len(state), got, want)
			}
		}
	}
}

// someCoins are coins of which many have ids that are alike in their first bytes or are different in one bit alone.
func someCoins(r *rand.Rand, width int) []api.Coin {
	var coins []api.Coin
	for i := range 20 {
		id := []byte(strings.Repeat("m", width))
		if i%2 == 0 {
			r.Read(id)
		} else {
			id[r.Intn(width)] ^= 1 << r.Intn(8)
		}
		for n := range api.MaxOuts {
			coins = append(coins, api.Coin{Tx: string(id), N: n})
		}
	}
	return coins
}

func checkSame(t *testing.T, tree Tree, digest string) {
	t.Helper()
	if tree.Digest() != digest {
		t.Fatalf("a tree was changed")
	}
}

func TestNoCoins(t *testing.T) {
	one, err := Empty(4).With(api.Coin{Tx: "abcd", N: 1}, api.Out{})
	if err != nil {
		t.Fatal(err)
	}
	none, _, err := one.Without(api.Coin{Tx: "abcd", N: 1})
	if err != nil || none.Digest() != hash(4, "E") || Empty(4).Digest() != hash(4, "E") {
		t.Errorf("the digest of no coins is %x (%v), want %x", none.Digest(), err, hash(4, "E"))
	}
}

func TestDownStopsWhenNoMoreIsWanted(t *testing.T) {
	tree := Empty(1)
	for i := range 8 {
		next, err := tree.With(api.Coin{Tx: string([]byte{byte(1 << i)})}, api.Out{})
		if err != nil {
			t.Fatal(err)
		}
		tree = next
	}
	seen := 0
	for range tree.down("\x01\x00") {
		seen++
		if seen == 3 {
			break
		}
	}
	if seen != 3 {
		t.Errorf("%d nodes were seen, 3 were wanted", seen)
	}
}

func TestProve(t *testing.T) {
	a, b, c := api.Coin{Tx: "ab", N: 0}, api.Coin{Tx: "ab", N: 1}, api.Coin{Tx: "\xffb", N: 2}
	tree := Empty(2)
	if p, err := tree.Prove(a); p != "\x00\x00" || err != nil {
		t.Errorf("Prove where there are no coins = %x, %v", p, err)
	}
	leaves := map[api.Coin]string{}
	for i, coin := range []api.Coin{a, b, c} {
		out := api.Out{Amount: uint64(i), Owner: 9}
		leaves[coin] = keyOf(coin) + outText(out)
		next, err := tree.With(coin, out)
		if err != nil {
			t.Fatal(err)
		}
		tree = next
	}
	digest := func(coin api.Coin) string { return hash(2, "L"+leaves[coin]) }
	below := hash(2, "N\x00\x17"+digest(a)+digest(b))
	for coin, want := range map[api.Coin]string{
		a:                      "\x00\x02\x00\x00" + digest(c) + "\x00\x17" + digest(b) + leaves[a],
		b:                      "\x00\x02\x00\x00" + digest(c) + "\x00\x17" + digest(a) + leaves[b],
		c:                      "\x00\x01\x00\x00" + below + leaves[c],
		{Tx: "\x80\x00"}:       "\x00\x01\x00\x00" + below + leaves[c],
		{Tx: "\x7fx"}:          "\x00\x02\x00\x00" + digest(c) + "\x00\x17" + digest(b) + leaves[a],
		{Tx: "\x00b", N: 1}:    "\x00\x02\x00\x00" + digest(c) + "\x00\x17" + digest(a) + leaves[b],
		{Tx: "\x00\x00", N: 2}: "\x00\x02\x00\x00" + digest(c) + "\x00\x17" + digest(b) + leaves[a],
	} {
		if p, err := tree.Prove(coin); p != want || err != nil {
			t.Errorf("Prove(%v) = %x, %v, want %x", coin, p, err, want)
		}
	}
	if p, err := tree.Prove(api.Coin{Tx: "ab", N: 3}); p != "" || !errors.Is(err, fault.Form) {
		t.Errorf("Prove of no coin = %x, %v", p, err)
	}
}

// textsOf puts down the nodes of a state's tree as the document says them.
func textsOf(width int, state map[string]string, texts map[string]int) {
	keys := slices.Sorted(maps.Keys(state))
	if len(keys) == 0 {
		texts["E"]++
		return
	}
	if len(keys) == 1 {
		texts["L"+keys[0]+state[keys[0]]]++
		return
	}
	least, greatest := bitText(keys[0]), bitText(keys[len(keys)-1])
	b := 0
	for least[b] == greatest[b] {
		b++
	}
	sides := [2]map[string]string{{}, {}}
	for _, key := range keys {
		sides[bitText(key)[b]-'0'][key] = state[key]
	}
	texts["N"+string([]byte{byte(b >> 8), byte(b)})+rootOf(width, sides[0])+rootOf(width, sides[1])]++
	textsOf(width, sides[0], texts)
	textsOf(width, sides[1], texts)
}

// someTrees are trees of which each has one coin more or less than the one ahead of it, and their nodes.
func someTrees(t *testing.T, width int) ([]Tree, []map[string]int) {
	t.Helper()
	r := rand.New(rand.NewSource(int64(width)))
	tree, state := Empty(width), map[string]string{}
	trees, nodes := []Tree{tree}, []map[string]int{{"E": 1}}
	coins := someCoins(r, width)
	for len(trees) < 25 {
		c, out := coins[r.Intn(len(coins))], api.Out{Amount: r.Uint64(), Owner: uint8(r.Intn(256))}
		if _, there := state[keyOf(c)]; there {
			tree, _, _ = tree.Without(c)
			delete(state, keyOf(c))
		} else {
			tree, _ = tree.With(c, out)
			state[keyOf(c)] = outText(out)
		}
		texts := map[string]int{}
		textsOf(width, state, texts)
		trees, nodes = append(trees, tree), append(nodes, texts)
	}
	return trees, nodes
}

func TestDifferenceAgainstTheDocument(t *testing.T) {
	for _, width := range []int{1, 2, 32} {
		trees, nodes := someTrees(t, width)
		for i := range trees {
			for j := range trees {
				var texts []string
				for text := range nodes[i] {
					if nodes[j][text] == 0 {
						texts = append(texts, text)
					}
				}
				for text := range nodes[j] {
					if nodes[i][text] == 0 {
						texts = append(texts, text)
					}
				}
				slices.Sort(texts)
				want := ""
				for _, text := range texts {
					want += string([]byte{0, byte(len(text))}) + text
				}
				if got, err := trees[i].Difference(trees[j]); got != want || err != nil {
					t.Fatalf("width %d: the difference of %d and %d is %x, %v, want %x", width, i, j, got, err, want)
				}
			}
		}
	}
}

func TestCountAgainstTheDocument(t *testing.T) {
	for _, width := range []int{1, 2, 32} {
		trees, nodes := someTrees(t, width)
		for i := range trees {
			for j := i; j <= len(trees); j++ {
				different := map[string]int{}
				for _, texts := range nodes[i:j] {
					maps.Copy(different, texts)
				}
				if got := Count(trees[i:j]); got != len(different) {
					t.Fatalf("width %d: the trees from %d to %d have %d nodes, want %d", width, i, j, got, len(different))
				}
			}
		}
	}
}

func TestAllStopsWhenNoMoreIsWanted(t *testing.T) {
	trees, _ := someTrees(t, 2)
	whole := 0
	for range all(trees) {
		whole++
	}
	for wanted := 1; wanted <= whole; wanted++ {
		seen := 0
		for range all(trees) {
			seen++
			if seen == wanted {
				break
			}
		}
		if seen != wanted {
			t.Errorf("%d nodes were seen, %d were wanted", seen, wanted)
		}
	}
}

func TestAllPassesWhatTreesShareOnce(t *testing.T) {
	trees, _ := someTrees(t, 32)
	last := trees[len(trees)-1]
	once, thrice := 0, 0
	for range all([]Tree{last}) {
		once++
	}
	for range all([]Tree{last, last, last}) {
		thrice++
	}
	if once != thrice {
		t.Errorf("of one tree %d nodes are passed, of three that are the same %d", once, thrice)
	}
}
