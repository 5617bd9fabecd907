// Package keys: the keys of coins, and their bits. A tree is sorted by these, and a proof goes down by them.
package keys

import (
	"math/bits"
	"strings"

	"trove/api"
	"trove/wire"
)

// Of tells the key of a coin.
func Of(width int, coin api.Coin) (string, error) {
	w := wire.NewWriter(width)
	w.Coin(coin)
	return w.Done()
}

// Coin tells the coin of a key, in memory of its own.
func Coin(key string) api.Coin {
	last := len(key) - 1
	return api.Coin{Tx: strings.Clone(key[:last]), N: int(key[last])}
}

// Bit tells a bit of a key; bit 0 is the greatest of the first byte.
func Bit(key string, bit int) int {
	return int(key[bit/8]>>(7-bit%8)) & 1
}

// FirstDifference tells the first bit at which two keys of one length, which are not the same, are different.
func FirstDifference(a, b string) int {
	i := 0
	for a[i] == b[i] {
		i++
	}
	return 8*i + bits.LeadingZeros8(a[i]^b[i])
}
