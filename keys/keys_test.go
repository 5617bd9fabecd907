package keys

import (
	"errors"
	"fmt"
	"testing"

	"trove/api"
	"trove/fault"
)

func TestOf(t *testing.T) {
	if key, err := Of(2, api.Coin{Tx: "ab", N: 2}); key != "ab\x02" || err != nil {
		t.Errorf("Of = %x, %v", key, err)
	}
	for _, c := range []api.Coin{{}, {Tx: "a"}, {Tx: "abc"}, {Tx: "ab", N: 3}, {Tx: "ab", N: -1}} {
		if key, err := Of(2, c); key != "" || !errors.Is(err, fault.Form) {
			t.Errorf("Of(%v) = %x, %v", c, key, err)
		}
	}
}

func TestBit(t *testing.T) {
	key := "\x81\x5a\x02"
	text := fmt.Sprintf("%08b%08b%08b", key[0], key[1], key[2])
	for i := range 24 {
		if Bit(key, i) != int(text[i]-'0') {
			t.Errorf("Bit %d of %s is told as %d", i, text, Bit(key, i))
		}
	}
}

func TestFirstDifference(t *testing.T) {
	for i := range 24 {
		other := []byte("\x81\x5a\x02")
		for j := i; j < 24; j += 5 {
			other[j/8] ^= 0x80 >> (j % 8)
		}
		if got := FirstDifference("\x81\x5a\x02", string(other)); got != i {
			t.Errorf("FirstDifference = %d, want %d", got, i)
		}
	}
}

func TestCoin(t *testing.T) {
	for _, c := range []api.Coin{{Tx: "ab", N: 2}, {Tx: "\x00", N: 0}} {
		key, err := Of(len(c.Tx), c)
		if got := Coin(key); got != c || err != nil {
			t.Errorf("the coin of %x = %v, %v, want %v", key, got, err, c)
		}
	}
}
