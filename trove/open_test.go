package trove_test

import (
	"maps"
	"math"
	"math/rand"
	"slices"
	"strings"
	"testing"

	"trove/api"
	"trove/trove"
)

func TestP15CutAtEveryByte(t *testing.T) {
	for _, width := range []int{1, 2, 3, 8, 32} {
		l, whole := pruned(t, width, rand.New(rand.NewSource(int64(width))), 14)
		log := l.Log()
		var m *model
		last, records := 0, recordsOf(t, log)
		for n := range len(log) + 1 {
			if len(records) > 0 && n == last+len(records[0]) {
				last, records = n, records[1:]
				m, _, _ = modelOpen(log[:n])
			}
			opened, place, e := trove.Open(log[:n])
			if m == nil {
				if opened != nil || place != 0 || e != api.ErrForm {
					t.Fatalf("P15: Open of %d bytes = %v, %d, %d", n, opened != nil, place, e)
				}
				continue
			}
			want := api.ErrTorn
			if n == last {
				want = api.OK
			}
			if opened == nil || place != last || e != want {
				t.Fatalf("P15: Open of %d bytes = %v, %d, %d, want %d, %d", n, opened != nil, place, e, last, want)
			}
			checkAlike(t, opened, m)
			goOn(t, opened, records)
			checkAlike(t, opened, whole)
		}
	}
}

// goOn does what records say with a ledger.
func goOn(t *testing.T, l *trove.Ledger, records []string) {
	t.Helper()
	for _, text := range records {
		letter, content, _ := wholeRecord(text)
		e := api.OK
		if letter == "B" {
			e = l.Submit(content)
		} else {
			e = l.Prune(int(value(content)))
		}
		if e != api.OK {
			t.Fatalf("P15: a ledger that was opened refuses %x: %d", text, e)
		}
	}
}

func TestP15EveryTurnedByte(t *testing.T) {
	seen := map[api.Errno]int{}
	for _, width := range []int{1, 2, 32} {
		log := shortLog(t, width)
		for i := range len(log) {
			for _, turn := range []byte{1, 2, 'G' ^ 'B', 'B' ^ 'P', 128, 255} {
				bad := []byte(log)
				bad[i] ^= turn
				_, _, e := checkOpen(t, "a log with a turned byte", string(bad))
				seen[e]++
				if e == api.OK {
					t.Errorf("P15: width %d: byte %d turned by %d: OK", width, i, turn)
				}
			}
		}
	}
	if seen[api.ErrForm] == 0 || seen[api.ErrTorn] == 0 {
		t.Errorf("not all was tried: %v", seen)
	}
}

// TestP15EveryTurnedByteWithItsDigest has records that are whole: what they say is another thing.
func TestP15EveryTurnedByteWithItsDigest(t *testing.T) {
	seen := map[api.Errno]int{}
	for _, width := range []int{1, 2, 32} {
		records := recordsOf(t, shortLog(t, width))
		for n, text := range records {
			for i := range len(text) - 4 {
				for _, turn := range []byte{1, 2, 4, 'G' ^ 'B', 'B' ^ 'P', 128, 255} {
					bad := []byte(text)
					bad[i] ^= turn
					log := strings.Join(records[:n], "") + resealed(bad) + strings.Join(records[n+1:], "")
					_, _, e := checkOpen(t, "a log with another record", log)
					seen[e]++
				}
			}
		}
	}
	// Another floor may be as good.
	t.Logf("Open: %v", seen)
	for _, e := range []api.Errno{api.OK, api.ErrForm, api.ErrTorn} {
		if seen[e] == 0 {
			t.Errorf("the answer %d was not tried: %v", e, seen)
		}
	}
}

func TestP15NoBeginning(t *testing.T) {
	l := ledger(t, 32, out(5, 1))
	good := l.Log()
	block := record("B", take(t, l))
	one := "\x01" + outText(out(5, 1))
	for what, log := range map[string]string{
		"a block":                          block,
		"a block ahead":                    block + good,
		"a floor":                          record("P", "\x00\x00\x00\x00"),
		"a floor ahead":                    record("P", "\x00\x00\x00\x00") + good,
		"a byte ahead":                     "G" + good,
		"no first byte":                    good[1:],
		"nothing in it":                    record("G", ""),
		"a width alone":                    record("G", "\x20"),
		"no width":                         record("G", one),
		"the width 0":                      record("G", "\x00"+one),
		"the width 33":                     record("G", "\x21"+one),
		"the width 255":                    record("G", "\xff"+one),
		"the width in 2":                   record("G", "\x00\x20"+one),
		"no outputs":                       record("G", "\x20\x00"),
		"no outputs, but the bytes of one": record("G", "\x20\x00"+outText(out(5, 1))),
		"one of two outputs":               record("G", "\x20\x02"+outText(out(5, 1))),
		"two outputs in place of one":      record("G", "\x20"+one+outText(out(5, 1))),
		"four outputs":                     record("G", "\x20"+outsText(make([]api.Out, 4))),
		"256 outputs":                      record("G", "\x20"+outsText(make([]api.Out, 256))),
		"a byte less in it":                record("G", "\x20"+one[:9]),
		"a byte more in it":                record("G", "\x20"+one+"\x00"),
		"the digest's first byte alone":    good[:15],
		"three bytes of the digest":        good[:17],
		"another digest":                   good[:17] + "x",
		"no digest":                        good[:14] + block,
		"a digest of the content alone":    good[:14] + hash(4, good[3:14]),
		"a digest without the letter":      good[:14] + hash(4, good[1:14]),
		"a digest with a letter for it":    good[:14] + hash(4, "R"+good[:14]),
		"the longest record":               record("G", strings.Repeat("\x20", 65535)),
		"bytes":                            strings.Repeat("\xff", 1<<20),
		"zeros":                            strings.Repeat("\x00", 1<<20),
	} {
		for _, behind := range []string{"", good, block} {
			if l, place, e := trove.Open(log + behind); l != nil || place != 0 || e != api.ErrForm {
				t.Errorf("P15: Open of a log that begins with %s = %v, %d, %d, want ErrForm", what, l != nil, place, e)
			}
		}
		checkOpen(t, what, log)
	}
	checkOpen(t, "nothing", "")
	if l, place, e := trove.Open(""); l != nil || place != 0 || e != api.ErrForm {
		t.Errorf("P15: Open of nothing = %v, %d, %d, want ErrForm", l != nil, place, e)
	}
}

func TestP15AllLettersAndWidths(t *testing.T) {
	for n := range uint64(256) {
		letter := num(n, 1)
		if _, _, e := checkOpen(t, "a letter", record(letter, "\x08\x01"+outText(out(5, 1)))); (e == api.OK) != (letter == "G") {
			t.Errorf("P15: Open of the first letter %q = %d", letter, e)
		}
		for count := range 6 {
			checkOpen(t, "a width", record("G", letter+outsText(make([]api.Out, count))))
		}
		l := ledger(t, 8, out(5, 1))
		good := l.Log()
		block := take(t, l)
		for _, content := range []string{"", "\x00\x00\x00\x00", block, good[3 : len(good)-4]} {
			_, _, e := checkOpen(t, "a letter behind", good+record(letter, content))
			mayBe := letter == "B" && content == block || letter == "P" && content == "\x00\x00\x00\x00"
			if mayBe != (e == api.OK) || !mayBe && e != api.ErrTorn {
				t.Errorf("P15: Open of the letter %q, with the content %x = %d", letter, content, e)
			}
		}
	}
}

// refusedBlocks are blocks that a model refuses for every reason that there is.
func refusedBlocks(t *testing.T, m *model, taken string) map[api.Errno]string {
	t.Helper()
	k := maker{rand.New(rand.NewSource(1)), m}
	good := k.unchecked(nil)
	some := coinOf(slices.Min(slices.Collect(maps.Keys(m.state))))
	none := api.Coin{Tx: some.Tx, N: 2}
	size := len(good) - 1
	blocks := map[api.Errno]string{
		api.ErrForm:  good + "\x00",
		api.ErrTip:   taken,
		api.ErrInput: k.unchecked([]api.Tx{pay(none)}),
		api.ErrSum:   k.unchecked([]api.Tx{pay(some, out(math.MaxUint64, 1))}),
		api.ErrRoot:  good[:size-1] + string([]byte{good[size-1] ^ 1}) + good[size:],
	}
	if m.width == 1 {
		x := meeting(t, api.Coin{Tx: some.Tx, N: 1}, 100, some.Tx)
		blocks[api.ErrExists] = k.unchecked([]api.Tx{x})
	}
	return blocks
}

func TestP15BlocksThatAreRefused(t *testing.T) {
	for _, width := range []int{1, 2, 32} {
		first := []api.Out{out(100, 1), out(100, 2)}
		m := newModel(width, first)
		taken := maker{m: m}.unchecked(nil)
		if e := m.submit(taken); e != api.OK {
			t.Fatalf("P7: the block is refused: %d", e)
		}
		next := record("B", maker{m: m}.unchecked(nil))
		for want, block := range refusedBlocks(t, m, taken) {
			if e := m.copied().submit(block); e != want {
				t.Fatalf("P7: width %d: the block is refused for %d, want %d", width, e, want)
			}
			for _, behind := range []string{"", next, m.log, record("P", "\x00\x00\x00\x01")} {
				l, _, e := checkOpen(t, "a log with a block that is refused", m.log+record("B", block)+behind)
				if e != api.ErrTorn || l.Tip() != 1 || l.Log() != m.log {
					t.Errorf("P15: width %d: a block that is refused for %d: %d, the tip is %d", width, want, e, l.Tip())
				}
			}
		}
		if l, _, e := checkOpen(t, "the good one", m.log+next); e != api.OK || l.Tip() != 2 {
			t.Errorf("P15: width %d: the next block: %d", width, e)
		}
	}
}

func TestP15FloorsThatMayAndMayNotBe(t *testing.T) {
	l := ledger(t, 4, out(1, 1))
	for range 3 {
		take(t, l)
	}
	floor := func(n uint64) string { return record("P", num(n, 4)) }
	for _, x := range []struct {
		behind string
		done   int // how many bytes of it
		floor  int
	}{
		{floor(0), 11, 0},
		{floor(0) + floor(0) + floor(0), 33, 0},
		{floor(3), 11, 3},
		{floor(1) + floor(2) + floor(3) + floor(3), 44, 3},
		{floor(4), 0, 0},
		{floor(4) + floor(1), 0, 0},
		{floor(2) + floor(1) + floor(3), 11, 2},
		{floor(2) + floor(0), 11, 2},
		{floor(1 << 31), 0, 0},
		{floor(1<<32 - 1), 0, 0},
		{floor(1) + record("P", "\x00\x00\x02") + floor(2), 11, 1},
		{floor(1) + record("P", "\x00\x00\x00\x02\x00"), 11, 1},
		{floor(1) + record("P", "\x00\x00\x00\x00\x02"), 11, 1},
		{floor(1) + record("P", num(2, 8)), 11, 1},
		{floor(1) + record("P", ""), 11, 1},
		{floor(1) + record("P", "\x02"), 11, 1},
		{floor(1) + floor(2)[:10], 11, 1},
	} {
		log := l.Log() + x.behind
		m, place, e := trove.Open(log)
		want := api.ErrTorn
		if x.done == len(x.behind) {
			want = api.OK
		}
		if m == nil || place != len(l.Log())+x.done || e != want {
			t.Fatalf("P15: Open of a log with floors %x = %v, %d, %d, want %d", x.behind, m != nil, place, e, want)
		}
		for height := range 4 {
			if _, e := m.Delta(height, 3); (e == api.OK) != (height >= x.floor) {
				t.Errorf("P15: behind the floors %x Delta(%d, 3) = %d", x.behind, height, e)
			}
		}
		checkOpen(t, "a log with floors", log)
	}
}

func TestP15LengthsThatLie(t *testing.T) {
	l := ledger(t, 8, out(5, 1))
	good := l.Log()
	block := take(t, l)
	for _, text := range []string{record("B", block), record("P", "\x00\x00\x00\x00")} {
		content := text[3 : len(text)-4]
		for size := range uint64(1 << 16) {
			lie := text[:1] + num(size, 2) + content
			for _, bad := range []string{lie + text[len(text)-4:], lie + hash(4, lie)} {
				_, place, e := trove.Open(good + bad)
				if truth := size == uint64(len(content)); truth != (e == api.OK) || !truth && (place != len(good) || e != api.ErrTorn) {
					t.Fatalf("P15: Open of a record of the length %d that says %d = %d, %d", len(content), size, place, e)
				}
			}
		}
	}
	for _, letter := range []string{"B", "P", "G", "X"} {
		for _, size := range []int{0, 1, 255, 256, 65534, 65535} {
			checkOpen(t, "a long record", good+record(letter, strings.Repeat("\x00", size))+record("B", block))
		}
	}
}

// spoiledLog is a log with something wrong in it, by chance, or nothing.
func spoiledLog(t *testing.T, r *rand.Rand, log string) string {
	t.Helper()
	records := recordsOf(t, log)
	at, other := r.Intn(len(records)), r.Intn(len(records))
	bytes := []byte(records[at])
	place := r.Intn(len(bytes))
	switch r.Intn(9) {
	case 0:
		bytes[place] ^= 1 << r.Intn(8)
		records[at] = string(bytes)
	case 1:
		bytes[place] ^= 1 << r.Intn(8)
		records[at] = resealed(bytes)
	case 2:
		records = slices.Insert(records, at, records[other])
	case 3:
		records = slices.Delete(records, at, at+1)
	case 4:
		records[at], records[other] = records[other], records[at]
	case 5:
		records = slices.Insert(records, at+1, record("P", num(uint64(r.Intn(8)), 4)))
	case 6:
		records[at] = records[at][:place]
	case 7:
		records[at] += records[other][:r.Intn(len(records[other]))]
	}
	return strings.Join(records, "")
}

func TestP15SpoiledLogsAgainstTheModel(t *testing.T) {
	seen := map[api.Errno]int{}
	for _, width := range []int{1, 1, 1, 2, 3, 8, 32} {
		for seed := range int64(6) {
			r := rand.New(rand.NewSource(seed*100 + int64(width)))
			_, m := pruned(t, width, r, 8)
			for range 60 {
				log := spoiledLog(t, r, m.log)
				if log != "" && r.Intn(8) == 0 {
					log = log[:r.Intn(len(log))]
				}
				l, opened, e := checkOpen(t, "a spoiled log", log)
				seen[e]++
				if l != nil && r.Intn(4) == 0 {
					checkKept(t, r, l, opened)
				}
			}
		}
	}
	t.Logf("Open: %v", seen)
	if seen[api.OK] < 100 || seen[api.ErrForm] < 100 || seen[api.ErrTorn] < 100 {
		t.Errorf("not all was tried: %v", seen)
	}
}

// TestP15BlocksThatMeet has two blocks of one header: what is done is what the record says.
func TestP15BlocksThatMeet(t *testing.T) {
	first := []api.Out{out(1<<40, 1)}
	m := newModel(1, first)
	byHeader := map[string]string{}
	for amount := range uint64(1 << 20) {
		block, e := m.seal([]api.Tx{pay(firstCoin(1, 0, first), out(amount, 1))})
		if e != api.OK {
			t.Fatalf("P6: the block is refused: %d", e)
		}
		other := byHeader[block[:7]]
		byHeader[block[:7]] = block
		if other == "" {
			continue
		}
		next := maker{m: m.behind(block)}.unchecked(nil)
		l, a, e := checkOpen(t, "one block", m.log+record("B", block)+record("B", next))
		k, b, f := checkOpen(t, "the other block", m.log+record("B", other)+record("B", next))
		if e != api.OK || f != api.OK || l.Log() == k.Log() || l.Tip() != 2 || k.Tip() != 2 {
			t.Errorf("P15: two blocks of one header: %d, %d", e, f)
		}
		r := rand.New(rand.NewSource(1))
		checkKept(t, r, l, a)
		checkKept(t, r, k, b)
		return
	}
	t.Fatal("no two blocks have one header")
}

func TestP1OpenOfAnyBytes(t *testing.T) {
	for a := range 256 {
		for b := range 256 {
			if l, place, e := trove.Open(string([]byte{byte(a), byte(b)})); l != nil || place != 0 || e != api.ErrForm {
				t.Fatalf("P15: Open of the bytes %d %d = %v, %d, %d", a, b, l != nil, place, e)
			}
		}
	}
	r := rand.New(rand.NewSource(1))
	good := ledger(t, 2, out(5, 1)).Log()
	for range 2000 {
		bytes := make([]byte, r.Intn(300))
		r.Read(bytes)
		checkOpen(t, "bytes by chance", string(bytes))
		checkOpen(t, "bytes by chance behind", good+string(bytes))
		checkOpen(t, "a record of bytes by chance", good+record([]string{"B", "P", "G"}[r.Intn(3)], string(bytes)))
		checkOpen(t, "a first record of bytes by chance", record("G", string(bytes)))
	}
}
