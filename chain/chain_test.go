package chain

import (
	"errors"
	"strings"
	"testing"

	"trove/api"
	"trove/fault"
	"trove/tree"
	"trove/wire"
)

func TestErrorsAreWrappedWithTheirPlaces(t *testing.T) {
	c, err := New(4, []api.Out{{Amount: 5, Owner: 1}})
	if err != nil {
		t.Fatal(err)
	}
	header, _ := c.Header(0)
	first := api.Coin{Tx: header[8:12], N: 0}
	missing := api.Coin{Tx: "none", N: 0}
	for _, x := range []struct {
		txs   []api.Tx
		cause error
		place string
	}{
		{make([]api.Tx, 4), fault.Form, "body: number of transactions: "},
		{[]api.Tx{{Ins: []api.Coin{first}}, {}}, fault.Form, "body: transaction 1: number of coins: "},
		{[]api.Tx{{Ins: []api.Coin{first, missing}}}, fault.Input, "body: transaction 0: coin 1: "},
		{[]api.Tx{{Ins: []api.Coin{first}, Outs: []api.Out{{Amount: 6}}}}, fault.Sum, "body: transaction 0: outputs: "},
	} {
		_, err := c.Seal(x.txs)
		if !errors.Is(err, x.cause) || !strings.HasPrefix(err.Error(), x.place) {
			t.Errorf("Seal tells %v, want %s%v", err, x.place, x.cause)
		}
	}
	if _, err := c.Header(1); !errors.Is(err, fault.Range) {
		t.Errorf("Header(1) tells %v", err)
	}
	if _, err := c.Query(1, missing); !errors.Is(err, fault.Range) || !strings.HasPrefix(err.Error(), "height: ") {
		t.Errorf("Query above the tip tells %v", err)
	}
	if _, err := c.Query(0, api.Coin{}); !errors.Is(err, fault.Form) || !strings.HasPrefix(err.Error(), "coin: ") {
		t.Errorf("Query of no coin tells %v", err)
	}
	if err := c.Submit("none"); !errors.Is(err, fault.Form) {
		t.Errorf("Submit of no block tells %v", err)
	}
}

func TestPruneForgetsTheStatesAlone(t *testing.T) {
	c, err := New(4, []api.Out{{Amount: 5, Owner: 1}})
	if err != nil {
		t.Fatal(err)
	}
	for range 4 {
		block, _ := c.Seal(nil)
		if err := c.Submit(block); err != nil {
			t.Fatal(err)
		}
	}
	for _, floor := range []int{-1, 5} {
		if err := c.Prune(floor); !errors.Is(err, fault.Range) || !strings.HasPrefix(err.Error(), "floor: ") {
			t.Errorf("Prune(%d) tells %v", floor, err)
		}
	}
	if err := c.Prune(3); err != nil {
		t.Fatal(err)
	}
	for height := range 5 {
		forgotten := c.blocks[height].state == tree.Tree{}
		if forgotten != (height < 3) || len(c.blocks[height].header) != 16 {
			t.Errorf("of the height %d is kept: %v", height, c.blocks[height])
		}
	}
	for _, x := range [][2]int{{2, 3}, {3, 2}, {3, 5}, {-1, 4}} {
		if _, err := c.Delta(x[0], x[1]); !errors.Is(err, fault.Range) {
			t.Errorf("Delta(%v) tells %v", x, err)
		}
	}
}

func TestOpenTellsWhereItStops(t *testing.T) {
	c, err := New(4, []api.Out{{Amount: 5, Owner: 1}})
	if err != nil {
		t.Fatal(err)
	}
	block, _ := c.Seal(nil)
	if err := c.Submit(block); err != nil {
		t.Fatal(err)
	}
	log := c.Log()
	for _, x := range []struct {
		log   string
		end   int
		cause error
		place string
	}{
		{"", 0, fault.Form, "beginning: "},
		{log[:17], 0, fault.Form, "beginning: "},
		{log[18:], 0, fault.Form, "beginning: "},
		{log + "B", len(log), fault.Torn, "byte 42: "},
		{log[:len(log)-1], 18, fault.Torn, "byte 18: "},
		{log[:18] + log, 18, fault.Torn, "byte 18: "},
		{log + log[18:], len(log), fault.Torn, "byte 42: "},
	} {
		opened, end, err := Open(x.log)
		if (opened == nil) != (x.end == 0) || end != x.end || !errors.Is(err, x.cause) || !strings.HasPrefix(err.Error(), x.place) {
			t.Errorf("Open of %x = %v, %d, %v, want %d, %s%v", x.log, opened != nil, end, err, x.end, x.place, x.cause)
		}
	}
	if opened, end, err := Open(log); opened == nil || end != 42 || err != nil || opened.Log() != log {
		t.Errorf("Open of a whole log = %v, %d, %v", opened != nil, end, err)
	}
}

func TestRecordsThatCannotBeDone(t *testing.T) {
	c, err := New(4, []api.Out{{Amount: 5, Owner: 1}})
	if err != nil {
		t.Fatal(err)
	}
	log := c.Log()
	for _, x := range []struct {
		letter, content string
		cause           error
		place           string
	}{
		{"G", log[3:14], fault.Form, "letter: "},
		{"B", "", fault.Form, "block: "},
		{"P", "\x00\x00\x00", fault.Form, "floor: "},
		{"P", "\x00\x00\x00\x00\x00", fault.Form, "floor: behind the end: "},
		{"P", "\x00\x00\x00\x01", fault.Range, "floor: height: "},
		{"", "", fault.Form, "letter: "},
	} {
		same, err := redo(c, wire.Record{Letter: x.letter, Content: x.content})
		if same != c || !errors.Is(err, x.cause) || !strings.HasPrefix(err.Error(), x.place) || c.Log() != log {
			t.Errorf("the record %s of %x is told as %v, want %s%v", x.letter, x.content, err, x.place, x.cause)
		}
	}
	for content, place := range map[string]string{
		"\x04\x00":             "start: number of outputs: ",
		log[3:14] + "\x00":     "start: behind the end: ",
		"\x00" + log[4:14]:     "width: ",
		"\x21" + log[4:14]:     "width: ",
		log[3:13]:              "start: output 0: ",
		"":                     "start: ",
		"\x04\x02" + log[5:14]: "start: output 1: ",
	} {
		none, err := redo(nil, wire.Record{Letter: wire.StartLetter, Content: content})
		if none != nil || !errors.Is(err, fault.Form) || !strings.HasPrefix(err.Error(), place) {
			t.Errorf("the first record of %x is told as %v, want %s", content, err, place)
		}
	}
	if none, err := redo(nil, wire.Record{Letter: wire.BlockLetter, Content: log[3:14]}); none != nil || !errors.Is(err, fault.Form) {
		t.Errorf("a first record of another kind is told as %v", err)
	}
}

// TestWhatCannotBePutDownChangesNothing has a content that is too long for a record.
func TestWhatCannotBePutDownChangesNothing(t *testing.T) {
	c, err := New(4, []api.Out{{Amount: 5, Owner: 1}})
	if err != nil {
		t.Fatal(err)
	}
	log := c.Log()
	if err := c.record(wire.BlockLetter, strings.Repeat("a", 1<<16)); !errors.Is(err, fault.Form) || c.Log() != log {
		t.Errorf("a record that is too long: %v", err)
	}
	if err := c.recordFloor(1 << 32); !errors.Is(err, fault.Form) || c.Log() != log {
		t.Errorf("a floor that is too great: %v", err)
	}
	if err := c.recordStart(nil); !errors.Is(err, fault.Form) || c.Log() != log {
		t.Errorf("no first outputs: %v", err)
	}
}
