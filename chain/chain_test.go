package chain

import (
	"errors"
	"strings"
	"testing"

	"trove/api"
	"trove/fault"
)

func TestErrorsAreWrappedWithTheirPlaces(t *testing.T) {
	c, err := New(4, []api.Out{{Amount: 5, Owner: 1}})
	if err != nil {
		t.Fatal(err)
	}
	header, _ := c.Header(0)
	first := api.Coin{Tx: header[8:12], N: 0}
	missing := api.Coin{Tx: "none", N: 0}
	for _, x := range []struct {
		txs   []api.Tx
		cause error
		place string
	}{
		{make([]api.Tx, 4), fault.Form, "body: number of transactions: "},
		{[]api.Tx{{Ins: []api.Coin{first}}, {}}, fault.Form, "body: transaction 1: number of coins: "},
		{[]api.Tx{{Ins: []api.Coin{first, missing}}}, fault.Input, "body: transaction 0: coin 1: "},
		{[]api.Tx{{Ins: []api.Coin{first}, Outs: []api.Out{{Amount: 6}}}}, fault.Sum, "body: transaction 0: outputs: "},
	} {
		_, err := c.Seal(x.txs)
		if !errors.Is(err, x.cause) || !strings.HasPrefix(err.Error(), x.place) {
			t.Errorf("Seal tells %v, want %s%v", err, x.place, x.cause)
		}
	}
	if _, err := c.Header(1); !errors.Is(err, fault.Range) {
		t.Errorf("Header(1) tells %v", err)
	}
	if _, err := c.Query(1, missing); !errors.Is(err, fault.Range) || !strings.HasPrefix(err.Error(), "height: ") {
		t.Errorf("Query above the tip tells %v", err)
	}
	if _, err := c.Query(0, api.Coin{}); !errors.Is(err, fault.Form) || !strings.HasPrefix(err.Error(), "coin: ") {
		t.Errorf("Query of no coin tells %v", err)
	}
	if err := c.Submit("none"); !errors.Is(err, fault.Form) {
		t.Errorf("Submit of no block tells %v", err)
	}
}
