package chain

import (
	"errors"
	"strings"
	"testing"

	"trove/api"
	"trove/fault"
	"trove/tree"
)

func TestErrorsAreWrappedWithTheirPlaces(t *testing.T) {
	c, err := New(4, []api.Out{{Amount: 5, Owner: 1}})
	if err != nil {
		t.Fatal(err)
	}
	header, _ := c.Header(0)
	first := api.Coin{Tx: header[8:12], N: 0}
	missing := api.Coin{Tx: "none", N: 0}
	for _, x := range []struct {
		txs   []api.Tx
		cause error
		place string
	}{
		{make([]api.Tx, 4), fault.Form, "body: number of transactions: "},
		{[]api.Tx{{Ins: []api.Coin{first}}, {}}, fault.Form, "body: transaction 1: number of coins: "},
		{[]api.Tx{{Ins: []api.Coin{first, missing}}}, fault.Input, "body: transaction 0: coin 1: "},
		{[]api.Tx{{Ins: []api.Coin{first}, Outs: []api.Out{{Amount: 6}}}}, fault.Sum, "body: transaction 0: outputs: "},
	} {
		_, err := c.Seal(x.txs)
		if !errors.Is(err, x.cause) || !strings.HasPrefix(err.Error(), x.place) {
			t.Errorf("Seal tells %v, want %s%v", err, x.place, x.cause)
		}
	}
	if _, err := c.Header(1); !errors.Is(err, fault.Range) {
		t.Errorf("Header(1) tells %v", err)
	}
	if _, err := c.Query(1, missing); !errors.Is(err, fault.Range) || !strings.HasPrefix(err.Error(), "height: ") {
		t.Errorf("Query above the tip tells %v", err)
	}
	if _, err := c.Query(0, api.Coin{}); !errors.Is(err, fault.Form) || !strings.HasPrefix(err.Error(), "coin: ") {
		t.Errorf("Query of no coin tells %v", err)
	}
	if err := c.Submit("none"); !errors.Is(err, fault.Form) {
		t.Errorf("Submit of no block tells %v", err)
	}
}

func TestPruneForgetsTheStatesAlone(t *testing.T) {
	c, err := New(4, []api.Out{{Amount: 5, Owner: 1}})
	if err != nil {
		t.Fatal(err)
	}
	for range 4 {
		block, _ := c.Seal(nil)
		if err := c.Submit(block); err != nil {
			t.Fatal(err)
		}
	}
	for _, floor := range []int{-1, 5} {
		if err := c.Prune(floor); !errors.Is(err, fault.Range) || !strings.HasPrefix(err.Error(), "floor: ") {
			t.Errorf("Prune(%d) tells %v", floor, err)
		}
	}
	if err := c.Prune(3); err != nil {
		t.Fatal(err)
	}
	for height := range 5 {
		forgotten := c.blocks[height].state == tree.Tree{}
		if forgotten != (height < 3) || len(c.blocks[height].header) != 16 {
			t.Errorf("of the height %d is kept: %v", height, c.blocks[height])
		}
	}
	for _, x := range [][2]int{{2, 3}, {3, 2}, {3, 5}, {-1, 4}} {
		if _, err := c.Delta(x[0], x[1]); !errors.Is(err, fault.Range) {
			t.Errorf("Delta(%v) tells %v", x, err)
		}
	}
}
