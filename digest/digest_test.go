package digest

import (
	"bytes"
	stdsha "crypto/sha256"
	"errors"
	"math"
	"testing"

	"trove/fault"
)

func TestOfIsTheLibrarysSHA256(t *testing.T) {
	long := make([]byte, 1000)
	for i := range long {
		long[i] = byte(i * 7)
	}
	for n := range long {
		want := stdsha.Sum256(long[:n])
		for width := 1; width <= 32; width++ {
			if got := Of(width, string(long[:n])); got != string(want[:width]) {
				t.Fatalf("P3: Of(%d, %d bytes) = %x, want %x", width, n, got, want[:width])
			}
		}
	}
}

func TestOfALongText(t *testing.T) {
	million := bytes.Repeat([]byte("a"), 1000000)
	want := stdsha.Sum256(million)
	if got := Of(32, string(million)); got != string(want[:]) {
		t.Errorf("P3: Of(32, a million times a) = %x, want %x", got, want)
	}
}

func TestCheckWidth(t *testing.T) {
	for width := 1; width <= 32; width++ {
		if err := CheckWidth(width); err != nil {
			t.Errorf("P3: CheckWidth(%d) = %v", width, err)
		}
	}
	for _, width := range []int{0, -1, 33, 256 + 8, math.MaxInt, math.MinInt} {
		if err := CheckWidth(width); !errors.Is(err, fault.Form) {
			t.Errorf("P3: CheckWidth(%d) = %v", width, err)
		}
	}
}
