package chain

import (
	"math/bits"

	"trove/api"
	"trove/digest"
	"trove/fault"
	"trove/tree"
	"trove/wire"
)

// apply tells the state behind transactions, one behind the other.
func apply(width int, state tree.Tree, txs []api.Tx) (tree.Tree, error) {
	err := fault.Each("transaction", txs, func(_ int, tx api.Tx) (err error) {
		state, err = applyOne(width, state, tx)
		return err
	})
	return state, err
}

func applyOne(width int, state tree.Tree, tx api.Tx) (tree.Tree, error) {
	id, err := txID(width, tx)
	if err != nil {
		return state, err
	}
	state, spent, err := spend(state, tx.Ins)
	if err != nil {
		return state, err
	}
	state, err = receive(state, id, tx.Outs)
	if err != nil {
		return state, err
	}
	return state, checkSums(spent, tx.Outs)
}

func txID(width int, tx api.Tx) (string, error) {
	w := wire.NewWriter(width)
	w.Tx(tx)
	text, err := w.Done()
	if err != nil {
		return "", err
	}
	return digest.Of(width, "T"+text), nil
}

// spend takes coins out of a state, and tells what they were.
func spend(state tree.Tree, coins []api.Coin) (tree.Tree, []api.Out, error) {
	spent := make([]api.Out, len(coins))
	err := fault.Each("coin", coins, func(i int, coin api.Coin) (err error) {
		state, spent[i], err = state.Without(coin)
		return err
	})
	return state, spent, err
}

// receive puts the coins of an id into a state.
func receive(state tree.Tree, id string, outs []api.Out) (tree.Tree, error) {
	err := fault.Each("output", outs, func(n int, out api.Out) (err error) {
		state, err = state.With(api.Coin{Tx: id, N: n}, out)
		return err
	})
	return state, err
}

// checkSums refuses sums that are too great, and more going out than comes in.
func checkSums(spent, made []api.Out) error {
	in, err := total(spent)
	if err != nil {
		return fault.At("coins", err)
	}
	out, err := total(made)
	if err != nil {
		return fault.At("outputs", err)
	}
	if out > in {
		return fault.At("outputs", fault.Sum)
	}
	return nil
}

func total(outs []api.Out) (uint64, error) {
	sum, carry := uint64(0), uint64(0)
	for _, out := range outs {
		sum, carry = bits.Add64(sum, out.Amount, 0)
		if carry != 0 {
			return 0, fault.Sum
		}
	}
	return sum, nil
}
