package proofs

import (
	"crypto/sha256"
	"errors"
	"strings"
	"testing"

	"trove/api"
	"trove/fault"
)

func hash(width int, s string) string {
	d := sha256.Sum256([]byte(s))
	return string(d[:width])
}

// A state of two coins, of the width 4: they are different at bit 38 for the first time.
const (
	one   = "coin\x00\x00\x00\x00\x00\x00\x00\x00\x07\x01"
	two   = "coin\x02\x00\x00\x00\x00\x00\x00\x00\x08\x02"
	ahead = "headers beginning."
)

func header() string {
	return ahead[:12] + hash(4, "N\x00\x26"+hash(4, "L"+one)+hash(4, "L"+two))
}

func proofOfOne() string { return "\x00\x01\x00\x26" + hash(4, "L"+two) + one }

func TestVerifyTellsWhatAProofSays(t *testing.T) {
	said, err := Verify(4, header(), api.Coin{Tx: "coin", N: 0}, proofOfOne())
	if want := (Said{Kind: api.There, Out: api.Out{Amount: 7, Owner: 1}}); said != want || err != nil {
		t.Errorf("Verify = %v, %v, want %v", said, err, want)
	}
	said, err = Verify(4, header(), api.Coin{Tx: "coin", N: 1}, proofOfOne())
	if want := (Said{Kind: api.Absent}); said != want || err != nil {
		t.Errorf("Verify of another coin = %v, %v, want %v", said, err, want)
	}
}

func TestErrorsTellTheirPlaces(t *testing.T) {
	for _, x := range []struct {
		width  int
		header string
		n      int
		proof  string
		place  string
		cause  error
	}{
		{0, header(), 0, proofOfOne(), "width: ", fault.Form},
		{4, header()[1:], 3, proofOfOne(), "header: ", fault.Form},
		{4, header(), 3, proofOfOne(), "coin: ", fault.Form},
		{4, header(), 0, proofOfOne() + "\x00", "proof: ", fault.Form},
		{4, header(), 2, proofOfOne(), "step 0: ", fault.Astray},
		{4, ahead[:16], 0, proofOfOne(), "proof: ", fault.Root},
	} {
		said, err := Verify(x.width, x.header, api.Coin{Tx: "coin", N: x.n}, x.proof)
		if said != (Said{}) || !errors.Is(err, x.cause) || !strings.HasPrefix(err.Error(), x.place) {
			t.Errorf("Verify = %v, %v, want %s%v", said, err, x.place, x.cause)
		}
	}
	_, _, err := Extract(4, header(), api.Coin{Tx: "coin"}, proofOfOne(), proofOfOne())
	if !errors.Is(err, fault.Alike) {
		t.Errorf("Extract of one proof twice tells %v", err)
	}
	_, _, err = Extract(4, header(), api.Coin{Tx: "coin"}, proofOfOne(), "")
	if !errors.Is(err, fault.Form) || !strings.HasPrefix(err.Error(), "second proof: ") {
		t.Errorf("Extract of a bad second proof tells %v", err)
	}
}

func TestTogetherStopsWhenNoMoreIsWanted(t *testing.T) {
	seen := ""
	for x, y := range together([]string{"a", "b", "c"}, []string{"d", "e"}) {
		seen += x + y
	}
	if seen != "adbe" {
		t.Errorf("together went through %s", seen)
	}
	for range together([]string{"a", "b"}, []string{"d", "e"}) {
		seen += "!"
		break
	}
	if seen != "adbe!" {
		t.Errorf("together did not stop: %s", seen)
	}
}
