package fault

import (
	"errors"
	"testing"
)

func TestAtWrapsWithPlaces(t *testing.T) {
	err := At("body", At("transaction 1", Input))
	if !errors.Is(err, Input) || errors.Is(err, Exists) {
		t.Errorf("errors.Is does not see the cause of %v", err)
	}
	if want := "body: transaction 1: a coin that is not there"; err.Error() != want {
		t.Errorf("Error() = %q, want %q", err.Error(), want)
	}
	var place *Place
	if !errors.As(err, &place) || place.Where != "body" {
		t.Errorf("errors.As finds the place %+v", place)
	}
	if At("body", nil) != nil {
		t.Errorf("At of no error is an error")
	}
}

func TestEachStopsAtTheFirstError(t *testing.T) {
	taken := 0
	err := Each("part", []string{"a", "b", "c"}, func(i int, part string) error {
		taken++
		if part == "b" {
			return Sum
		}
		return nil
	})
	if taken != 2 || !errors.Is(err, Sum) || err.Error() != "part 1: "+Sum.Error() {
		t.Errorf("Each took %d steps, and told %v", taken, err)
	}
	if err := Each("part", []int{1, 2}, func(int, int) error { return nil }); err != nil {
		t.Errorf("Each without an error told %v", err)
	}
}
