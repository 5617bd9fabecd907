package trove_test

import (
	"maps"
	"math"
	"math/rand"
	"slices"
	"strings"
	"testing"

	"trove/api"
	"trove/trove"
)

// differs holds Differ against what is wanted: the changes, or that it is false.
func differs(t *testing.T, what string, width int, before, after, proof string, ok bool, want ...api.Change) {
	t.Helper()
	got, is := trove.Differ(width, before, after, proof)
	if is != ok || !slices.Equal(got, want) {
		t.Fatalf("P12: width %d: Differ of %s (%x) = %+v, %v, want %+v, %v", width, what, proof, got, is, want, ok)
	}
}

func checkDelta(t *testing.T, l *trove.Ledger, m *model, a, b int) string {
	t.Helper()
	p, e := l.Delta(a, b)
	want, wantE := m.delta(a, b)
	if p != want || e != wantE {
		t.Fatalf("P11: width %d: Delta(%d, %d) = %x, %d, want %x, %d", m.width, a, b, p, e, want, wantE)
	}
	return p
}

// meet is whether different nodes of two states' trees have the same digest, or a tree has one twice.
func meet(width int, a, b map[string]api.Out) bool {
	x, y := texts(width, a), texts(width, b)
	all, digests, twice := maps.Clone(x), map[string]int{}, false
	maps.Copy(all, y)
	for text := range all {
		digests[hash(width, text)]++
		twice = twice || x[text] > 1 || y[text] > 1
	}
	return twice || len(digests) < len(all)
}

func TestP11P12AgainstTheModel(t *testing.T) {
	said, apart := map[string]int{}, map[bool]int{}
	for _, width := range []int{1, 1, 1, 2, 3, 8, 31, 32} {
		for seed := range int64(5) {
			r := rand.New(rand.NewSource(seed*100 + int64(width)))
			l, m := grown(t, width, r, 6+int(seed)*10)
			for range 60 {
				a, b := r.Intn(len(m.headers)), r.Intn(len(m.headers))
				if r.Intn(2) == 0 {
					b = min(a+1, m.tip())
				}
				p := checkDelta(t, l, m, a, b)
				want, wrong := modelDiffer(width, m.headers[a], m.headers[b], p)
				differs(t, "Delta's proof", width, m.headers[a], m.headers[b], p, wrong == "", want...)
				said[wrong]++
				apart[meet(width, m.states[a], m.states[b])]++
				if !meet(width, m.states[a], m.states[b]) {
					differs(t, "Delta's proof, by the states", width, m.headers[a], m.headers[b], p, true,
						changed(m.states[a], m.states[b])...)
				}
			}
			checkAlike(t, l, m)
		}
	}
	t.Logf("Differ: %v; digests that met: %v", said, apart)
	if said[""] < 500 || said["the same digest"] == 0 || apart[true] < 100 || apart[false] < 500 {
		t.Errorf("not all was tried: %v, %v", said, apart)
	}
}

func TestP11DocumentsExample(t *testing.T) {
	first := []api.Out{out(5, 1)}
	l := ledger(t, 32, first...)
	c := firstCoin(32, 0, first)
	x := pay(c, out(3, 2), out(2, 1))
	take(t, l, x)
	a, b := madeCoin(32, x, 0), madeCoin(32, x, 1)
	leaf, one, two := leafText(keyOf(c), first[0]), leafText(keyOf(a), out(3, 2)), leafText(keyOf(b), out(2, 1))
	want := bundled(leaf, one, two, branchText(263, hash(32, one), hash(32, two)))
	for _, heights := range [][2]int{{0, 1}, {1, 0}} {
		if p, e := l.Delta(heights[0], heights[1]); p != want || e != api.OK {
			t.Errorf("P11: Delta(%v) = %x, %d, want %x", heights, p, e, want)
		}
	}
	before, _ := l.Header(0)
	after, _ := l.Header(1)
	list := []api.Change{{Coin: c, Was: true, Old: first[0]}, {Coin: a, Is: true, New: out(3, 2)}, {Coin: b, Is: true, New: out(2, 1)}}
	slices.SortFunc(list, func(x, y api.Change) int { return strings.Compare(keyOf(x.Coin), keyOf(y.Coin)) })
	differs(t, "the example", 32, before, after, want, true, list...)
}

func TestP11HeightsThatAreNotKept(t *testing.T) {
	l, m := grown(t, 4, rand.New(rand.NewSource(5)), 30)
	if l.Prune(3) != api.OK || m.prune(3) != api.OK {
		t.Fatalf("P13: Prune(3) is refused; the tip is %d", m.tip())
	}
	for _, bad := range []int{-1, 0, 2, m.tip() + 1, math.MaxInt, math.MinInt, 1 << 32} {
		for _, other := range []int{bad, 3, m.tip(), -1} {
			for _, x := range [][2]int{{bad, other}, {other, bad}} {
				if p, e := l.Delta(x[0], x[1]); p != "" || e != api.ErrRange {
					t.Errorf("P11: Delta(%v) = %x, %d, want ErrRange", x, p, e)
				}
			}
		}
	}
	checkDelta(t, l, m, 3, m.tip())
	checkDelta(t, l, m, m.tip(), 3)
}

func TestP11OfTheSameStateAndOfNoCoins(t *testing.T) {
	for _, width := range []int{1, 5, 32} {
		first := []api.Out{out(5, 1)}
		l := ledger(t, width, first...)
		c := firstCoin(width, 0, first)
		take(t, l)
		take(t, l, pay(c))
		take(t, l)
		headers := make([]string, 4)
		for height := range headers {
			headers[height], _ = l.Header(height)
		}
		for _, x := range [][2]int{{0, 0}, {0, 1}, {1, 0}, {2, 3}, {3, 2}} {
			if p, e := l.Delta(x[0], x[1]); p != "" || e != api.OK {
				t.Errorf("P11: Delta(%v) of the same state = %x, %d", x, p, e)
			}
			differs(t, "nothing", width, headers[x[0]], headers[x[1]], "", true)
		}
		want := "\x00\x01E" + sized(leafText(keyOf(c), first[0]))
		for _, x := range [][2]int{{0, 2}, {2, 0}, {1, 3}} {
			if p, e := l.Delta(x[0], x[1]); p != want || e != api.OK {
				t.Errorf("P11: Delta(%v) where no coins are left = %x, %d, want %x", x, p, e, want)
			}
		}
		differs(t, "the last coin", width, headers[0], headers[3], want, true, api.Change{Coin: c, Was: true, Old: first[0]})
		differs(t, "the first coin", width, headers[3], headers[0], want, true, api.Change{Coin: c, Is: true, New: first[0]})
	}
}

// grove makes trees that need not be those of states: nodes, in a list, by which a digest is told.
type grove struct {
	width int
	nodes []string
}

func (g *grove) add(text string) string {
	if !slices.Contains(g.nodes, text) {
		g.nodes = append(g.nodes, text)
	}
	return hash(g.width, text)
}

func (g *grove) none() string                          { return g.add("E") }
func (g *grove) leaf(key string, o api.Out) string     { return g.add(leafText(key, o)) }
func (g *grove) branch(b int, zero, one string) string { return g.add(branchText(b, zero, one)) }

// checkGrove makes two trees, and holds Differ against the model, and the model against what is wanted.
func checkGrove(t *testing.T, what, wrong string, make func(g *grove) (string, string), want ...api.Change) {
	t.Helper()
	for _, width := range []int{4, 32} {
		g := &grove{width: width}
		before, after := make(g)
		proof := bundled(g.nodes...)
		changes, told := modelDiffer(width, headerOf(width, before), headerOf(width, after), proof)
		if told != wrong {
			t.Fatalf("%s: the model tells %q, want %q", what, told, wrong)
		}
		differs(t, what, width, headerOf(width, before), headerOf(width, after), proof, wrong == "", changes...)
		if len(want) != len(changes) {
			t.Errorf("P12: %s: %+v, want %+v", what, changes, want)
		}
		for i := range want {
			c := changes[i]
			c.Coin.Tx = strings.TrimRight(c.Coin.Tx, "-")
			if c != want[i] {
				t.Errorf("P12: %s: %+v, want %+v", what, c, want[i])
			}
		}
	}
}

// key is a key that begins with a name.
func (g *grove) key(name string, n int) string {
	return name + strings.Repeat("-", g.width-len(name)) + string([]byte{byte(n)})
}

func TestP12WhatMayBe(t *testing.T) {
	checkGrove(t, "one coin with another output", "", func(g *grove) (string, string) {
		return g.leaf(g.key("a", 0), out(1, 1)), g.leaf(g.key("a", 0), out(1, 2))
	}, api.Change{Coin: api.Coin{Tx: "a"}, Was: true, Is: true, Old: out(1, 1), New: out(1, 2)})
	checkGrove(t, "a coin of nothing that comes", "", func(g *grove) (string, string) {
		return g.none(), g.leaf(g.key("a", 2), out(0, 0))
	}, api.Change{Coin: api.Coin{Tx: "a", N: 2}, Is: true})
	checkGrove(t, "a coin of nothing that goes", "", func(g *grove) (string, string) {
		return g.leaf(g.key("a", 1), out(0, 0)), g.none()
	}, api.Change{Coin: api.Coin{Tx: "a", N: 1}, Was: true})
	checkGrove(t, "a coin of nothing that becomes one of something", "", func(g *grove) (string, string) {
		return g.leaf(g.key("a", 1), out(0, 0)), g.leaf(g.key("a", 1), out(1<<63, 255))
	}, api.Change{Coin: api.Coin{Tx: "a", N: 1}, Was: true, Is: true, New: out(1<<63, 255)})
	checkGrove(t, "nodes that are in both", "", func(g *grove) (string, string) {
		same, shared := g.leaf(g.key("a", 0), out(1, 1)), g.leaf(g.key("b", 0), out(2, 2))
		low := g.branch(9, same, shared)
		return g.branch(3, low, g.leaf(g.key("x", 0), out(3, 3))), low
	}, api.Change{Coin: api.Coin{Tx: "x"}, Was: true, Old: out(3, 3)})
	checkGrove(t, "two trees that are one", "", func(g *grove) (string, string) {
		top := g.branch(0, g.leaf(g.key("a", 0), out(1, 1)), g.leaf(g.key("b", 0), out(2, 2)))
		return top, top
	})
	checkGrove(t, "a leaf that is elsewhere", "", func(g *grove) (string, string) {
		a, b := g.leaf(g.key("a", 0), out(1, 1)), g.leaf(g.key("b", 0), out(2, 2))
		return g.branch(7, a, b), g.branch(6, b, a)
	})
	checkGrove(t, "keys that are where their bits do not lead", "", func(g *grove) (string, string) {
		return g.branch(0, g.leaf(g.key("\xff", 0), out(1, 1)), g.leaf(g.key("\x01", 0), out(2, 2))), g.none()
	}, api.Change{Coin: api.Coin{Tx: "\x01"}, Was: true, Old: out(2, 2)}, api.Change{Coin: api.Coin{Tx: "\xff"}, Was: true, Old: out(1, 1)})
	checkGrove(t, "no coins below a branch", "", func(g *grove) (string, string) {
		return g.branch(0, g.none(), g.leaf(g.key("a", 0), out(1, 1))), g.none()
	}, api.Change{Coin: api.Coin{Tx: "a"}, Was: true, Old: out(1, 1)})
	checkGrove(t, "N as the last of what a key has", "", func(g *grove) (string, string) {
		return g.branch(7, g.leaf(g.key("a", 2), out(1, 1)), g.leaf(g.key("a", 0), out(2, 2))), g.leaf(g.key("a", 1), out(3, 3))
	}, api.Change{Coin: api.Coin{Tx: "a", N: 0}, Was: true, Old: out(2, 2)},
		api.Change{Coin: api.Coin{Tx: "a", N: 1}, Is: true, New: out(3, 3)},
		api.Change{Coin: api.Coin{Tx: "a", N: 2}, Was: true, Old: out(1, 1)})
	checkGrove(t, "the same digests left, at other places", "", func(g *grove) (string, string) {
		p, q, r := hash(g.width, "p"), hash(g.width, "q"), hash(g.width, "r")
		return g.branch(1, p, g.branch(2, q, r)), g.branch(1, r, g.branch(2, p, q))
	})
	checkGrove(t, "one digest left twice in both", "", func(g *grove) (string, string) {
		p, q := hash(g.width, "p"), hash(g.width, "q")
		return g.branch(1, p, g.branch(2, q, p)), g.branch(1, p, g.branch(2, p, q))
	})
	checkGrove(t, "no nodes, and nothing different", "", func(g *grove) (string, string) {
		return hash(g.width, "p"), hash(g.width, "p")
	})
	checkGrove(t, "all bits of a key", "", func(g *grove) (string, string) {
		top := g.leaf(g.key("a", 0), out(1, 1))
		for b := 8*g.width + 7; b >= 0; b-- {
			top = g.branch(b, top, hash(g.width, num(uint64(b), 2)))
		}
		again := g.leaf(g.key("a", 0), out(1, 2))
		for b := 8*g.width + 7; b >= 0; b-- {
			again = g.branch(b, again, hash(g.width, num(uint64(b), 2)))
		}
		return top, again
	}, api.Change{Coin: api.Coin{Tx: "a"}, Was: true, Is: true, Old: out(1, 1), New: out(1, 2)})
}

func TestP12WhatMayNotBe(t *testing.T) {
	checkGrove(t, "a leaf met twice", "met twice", func(g *grove) (string, string) {
		a := g.leaf(g.key("a", 0), out(1, 1))
		return g.branch(0, a, a), a
	})
	checkGrove(t, "a leaf met twice behind", "met twice", func(g *grove) (string, string) {
		a := g.leaf(g.key("a", 0), out(1, 1))
		return a, g.branch(0, a, g.branch(4, a, g.leaf(g.key("b", 0), out(1, 1))))
	})
	checkGrove(t, "no coins met twice", "met twice", func(g *grove) (string, string) {
		return g.branch(0, g.none(), g.none()), g.none()
	})
	checkGrove(t, "a branch met twice", "met twice", func(g *grove) (string, string) {
		low := g.branch(3, hash(g.width, "p"), hash(g.width, "q"))
		top := g.branch(0, low, low)
		return top, top
	})
	checkGrove(t, "two leaves of one key", "a key twice", func(g *grove) (string, string) {
		return g.branch(0, g.leaf(g.key("a", 0), out(1, 1)), g.leaf(g.key("a", 0), out(1, 2))), g.none()
	})
	checkGrove(t, "two leaves of one key behind", "a key twice", func(g *grove) (string, string) {
		return g.none(), g.branch(0, g.leaf(g.key("a", 0), out(1, 1)), g.leaf(g.key("a", 0), out(1, 2)))
	})
	for _, bits := range [][3]int{{3, 3, 9}, {3, 2, 9}, {0, 5, 5}, {1, 5, 0}, {5, 1, 2}, {5, 1, 9}, {39, 0, 1}} {
		chain := func(g *grove) string {
			p := func(s string) string { return hash(g.width, s) }
			return g.branch(bits[0], p("1"), g.branch(bits[1], g.branch(bits[2], p("2"), p("3")), p("4")))
		}
		checkGrove(t, "bits that do not rise", "not less", func(g *grove) (string, string) { return chain(g), hash(g.width, "x") })
		checkGrove(t, "bits that do not rise behind", "not less", func(g *grove) (string, string) { return hash(g.width, "x"), chain(g) })
	}
	checkGrove(t, "a node that is nowhere", "not met", func(g *grove) (string, string) {
		g.leaf(g.key("b", 0), out(1, 1))
		return g.leaf(g.key("a", 0), out(1, 1)), g.none()
	})
	checkGrove(t, "a node that is nowhere, and nothing else", "not met", func(g *grove) (string, string) {
		g.none()
		return hash(g.width, "p"), hash(g.width, "p")
	})
	checkGrove(t, "a tree that is nowhere", "not met", func(g *grove) (string, string) {
		g.branch(1, g.none(), g.leaf(g.key("b", 0), out(1, 1)))
		return g.leaf(g.key("a", 0), out(1, 1)), g.leaf(g.key("a", 0), out(1, 2))
	})
	checkGrove(t, "different digests left", "left", func(g *grove) (string, string) {
		return g.branch(1, hash(g.width, "p"), hash(g.width, "q")), g.branch(1, hash(g.width, "p"), hash(g.width, "r"))
	})
	checkGrove(t, "the same digests left, but not as many of each", "left", func(g *grove) (string, string) {
		p, q := hash(g.width, "p"), hash(g.width, "q")
		return g.branch(1, p, g.branch(2, q, p)), g.branch(1, q, g.branch(2, p, q))
	})
	checkGrove(t, "a digest left more often", "left", func(g *grove) (string, string) {
		p := hash(g.width, "p")
		return g.branch(1, p, p), p
	})
	checkGrove(t, "a digest left behind alone", "left", func(g *grove) (string, string) {
		return g.none(), hash(g.width, "p")
	})
	checkGrove(t, "nothing but two digests", "left", func(g *grove) (string, string) {
		return hash(g.width, "q"), hash(g.width, "p")
	})
}

// TestP12BytesThatAreNoNodes has trees that are all right but for one node's form.
func TestP12BytesThatAreNoNodes(t *testing.T) {
	for _, width := range []int{1, 2, 31, 32} {
		id, o := hash(32, "id")[:width], outText(out(1, 1))
		p, q := hash(width, "p"), hash(width, "q")
		limit := 8 * (width + 1)
		for text, ok := range map[string]bool{
			"E": true, "E\x00": false, "e": false, "": false, "L": false, "N": false, "T" + id + "\x00" + o: false,
			"L" + id + "\x00" + o: true, "L" + id + "\x02" + o: true, "L" + id + "\x03" + o: false, "L" + id + "\xff" + o: false,
			"L" + id + "\x00" + o + "\x00": false, "L" + id + o: false, "L" + id + "\x00" + o[1:]: false,
			"N\x00\x00" + p + q: true, branchText(limit-1, p, q): true, branchText(limit, p, q): false, branchText(1<<16-1, p, q): false,
			"N\x00\x00" + p + q + "\x00": false, "N\x00\x00" + p + q[1:]: false, "N\x00" + p + q: false,
			"l" + id + "\x00" + o: false, "n\x00\x00" + p + q: false,
		} {
			header := headerOf(width, hash(width, text))
			proof := sized(text)
			want, wrong := modelDiffer(width, header, header, proof)
			differs(t, "one node", width, header, header, proof, wrong == "", want...)
			if (wrong == "") != ok {
				t.Errorf("%x: the model tells %q", text, wrong)
			}
			for _, bad := range []string{proof + "\x00", proof + "\x00\x00", "\x00" + proof, "\x00\x00" + proof, proof[1:], proof + proof, text + "\x00"} {
				differs(t, "one node, with other bytes", width, header, header, bad, false)
			}
			for n := range len(proof) {
				if n > 0 {
					differs(t, "a part of a node", width, header, header, proof[:n], false)
				}
				longer := num(uint64(len(text)+1+n), 2) + text
				differs(t, "a length that is too great", width, header, header, longer, false)
				differs(t, "a length that is too great", width, header, header, longer+strings.Repeat("\x00", 1+n), false)
				shorter := num(uint64(n), 2) + text
				if n < len(text) {
					differs(t, "a length that is too small", width, header, header, shorter, false)
				}
			}
		}
	}
}

func TestP12NodesInTheirOrder(t *testing.T) {
	for _, width := range []int{4, 32} {
		g := &grove{width: width}
		top := g.branch(0, g.leaf(g.key("a", 0), out(1, 1)), g.branch(1, g.leaf(g.key("b", 0), out(1, 1)), hash(width, "p")))
		other := g.branch(0, g.none(), hash(width, "p"))
		before, after := headerOf(width, top), headerOf(width, other)
		slices.Sort(g.nodes)
		changes, _ := modelDiffer(width, before, after, bundled(g.nodes...))
		if len(changes) != 2 {
			t.Fatalf("the model tells %v", changes)
		}
		differs(t, "nodes that rise", width, before, after, bundled(g.nodes...), true, changes...)
		in := func(nodes ...string) string {
			s := ""
			for _, text := range nodes {
				s += sized(text)
			}
			return s
		}
		for i := range g.nodes {
			for j := range g.nodes {
				turned := slices.Clone(g.nodes)
				turned[i], turned[j] = turned[j], turned[i]
				if i != j {
					differs(t, "two nodes in each other's place", width, before, after, in(turned...), false)
				}
				differs(t, "a node twice", width, before, after, in(slices.Insert(slices.Clone(g.nodes), i, g.nodes[j])...), false)
			}
			differs(t, "a node too few", width, before, after, in(slices.Delete(slices.Clone(g.nodes), i, i+1)...), false)
		}
	}
}

// TestP12NodesOfTheSameDigest has two nodes of one digest, of which one is in the tree.
func TestP12NodesOfTheSameDigest(t *testing.T) {
	key := "k\x00"
	text := leafText(key, out(5, 1))
	header := headerOf(1, hash(1, text))
	same := leafText(key, out(meetingAmount(t, key, hash(1, text), 6), 1))
	differs(t, "one leaf", 1, header, header, bundled(text), true)
	differs(t, "another leaf", 1, header, header, bundled(same), true)
	differs(t, "two leaves of one digest", 1, header, header, bundled(text, same), false)
	other := leafText("n\x01", out(meetingAmount(t, "n\x01", hash(1, text), 0), 1))
	differs(t, "two leaves of one digest, and other keys", 1, header, header, bundled(text, other), false)
}

func TestP12ThingsThatAreNone(t *testing.T) {
	l, m := grown(t, 32, rand.New(rand.NewSource(8)), 10)
	a, b := m.headers[0], m.headers[m.tip()]
	p := checkDelta(t, l, m, 0, m.tip())
	differs(t, "Delta's proof", 32, a, b, p, true, changed(m.states[0], m.state)...)
	for _, width := range []int{math.MinInt, -1, 0, 1, 31, 33, 64, 1 << 62, math.MaxInt} {
		differs(t, "another width", width, a, b, p, false)
		differs(t, "another width, and nothing", width, a, a, "", false)
	}
	for _, bad := range []string{"", a[1:], a + "\x00", a[:4+2*32], a + a, strings.Repeat("\x00", 1<<20)} {
		differs(t, "no header ahead", 32, bad, b, p, false)
		differs(t, "no header behind", 32, a, bad, p, false)
		differs(t, "no header, and nothing", 32, bad, bad, "", false)
	}
	for _, width := range []int{-1, 0, 33, 34} {
		state := strings.Repeat("s", max(width, 0))
		differs(t, "headers of no width", width, headerOf(max(width, 0), state), headerOf(max(width, 0), state), "", false)
	}
	// Of a header its length and its digest of the state count alone.
	differs(t, "headers with another beginning", 32, headerOf(32, a[68:]), headerOf(32, b[68:]), p, true, changed(m.states[0], m.state)...)
	differs(t, "the headers the other way", 32, b, a, p, true, changed(m.state, m.states[0])...)
}

// TestP12Ends has nodes that lead to one another, or to one node by very many ways.
func TestP12Ends(t *testing.T) {
	g := &grove{width: 32}
	top := g.leaf(g.key("a", 0), out(1, 1))
	for b := 263; b >= 0; b-- {
		top = g.branch(b, top, top)
	}
	differs(t, "2^264 ways", 32, headerOf(32, top), headerOf(32, top), bundled(g.nodes...), false)
	loops := 0
	for a := range 256 {
		for b := range 256 {
			text := branchText(0, num(uint64(a), 1), num(uint64(b), 1))
			d := hash(1, text)
			if d == num(uint64(a), 1) || d == num(uint64(b), 1) {
				loops++
				differs(t, "a node that leads to itself", 1, headerOf(1, d), headerOf(1, d), bundled(text), false)
				differs(t, "a node that leads to itself", 1, headerOf(1, d), headerOf(1, "x"), bundled(text), false)
				differs(t, "a node that leads to itself", 1, headerOf(1, "x"), headerOf(1, d), bundled(text), false)
			}
		}
	}
	if loops == 0 {
		t.Error("no node leads to itself")
	}
	for _, s := range []string{"\xff\xff", strings.Repeat("\x00", 1<<18), strings.Repeat("\x00\x01E", 1<<17), strings.Repeat("\xff", 1<<20)} {
		differs(t, "many bytes", 1, headerOf(1, "x"), headerOf(1, "x"), s, false)
		differs(t, "many bytes", 32, headerOf(32, hash(32, "E")), headerOf(32, hash(32, "E")), s, false)
	}
}

func TestP12ManyNodes(t *testing.T) {
	var nodes []string
	add := func(text string) string {
		nodes = append(nodes, text)
		return hash(8, text)
	}
	var build func(depth int, name string) string
	build = func(depth int, name string) string {
		if depth == 14 {
			return add(leafText(hash(8, name)+"\x00", out(1, 1)))
		}
		return add(branchText(depth, build(depth+1, name+"0"), build(depth+1, name+"1")))
	}
	top := build(0, "")
	got, ok := trove.Differ(8, headerOf(8, top), headerOf(8, hash(8, "E")), bundled(append(nodes, "E")...))
	if !ok || len(got) != 1<<14 {
		t.Fatalf("P12: Differ of %d nodes = %d changes, %v", len(nodes)+1, len(got), ok)
	}
	rises := slices.IsSortedFunc(got, func(x, y api.Change) int { return strings.Compare(keyOf(x.Coin), keyOf(y.Coin)) })
	if !rises {
		t.Error("P12: the changes do not rise by their keys")
	}
}
