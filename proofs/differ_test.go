package proofs

import (
	"errors"
	"reflect"
	"strings"
	"testing"

	"trove/api"
	"trove/fault"
)

// headerOf is a header of the width 4, of the state whose tree has this root.
func headerOf(root string) string { return ahead[:12] + hash(4, root) }

func sized(texts ...string) string {
	s := ""
	for _, text := range texts {
		s += string([]byte{0, byte(len(text))}) + text
	}
	return s
}

func branch(bit byte, zero, one string) string {
	return "N\x00" + string([]byte{bit}) + hash(4, zero) + hash(4, one)
}

func TestDifferTellsTheChanges(t *testing.T) {
	top := branch(38, "L"+one, "L"+two)
	before, after := headerOf("L"+one), headerOf(top)
	comes := []api.Change{{Coin: api.Coin{Tx: "coin", N: 2}, Is: true, New: api.Out{Amount: 8, Owner: 2}}}
	goes := []api.Change{{Coin: api.Coin{Tx: "coin", N: 2}, Was: true, Old: api.Out{Amount: 8, Owner: 2}}}
	for _, x := range []struct {
		before, after, proof string
		want                 []api.Change
	}{
		{before, after, sized("L"+two, top), comes},
		{after, before, sized("L"+two, top), goes},
		{before, after, sized("L"+one, "L"+two, top), comes},
		{after, after, sized("L"+two, top), nil},
		{after, after, "", nil},
	} {
		if got, err := Differ(4, x.before, x.after, x.proof); !reflect.DeepEqual(got, x.want) || err != nil {
			t.Errorf("Differ = %v, %v, want %v", got, err, x.want)
		}
	}
}

func TestDifferTellsThePlacesOfErrors(t *testing.T) {
	top := branch(38, "L"+one, "L"+two)
	other := "L" + two[:13] + "\x09"
	twice, low := branch(0, "L"+one, "L"+one), branch(9, "p", "q")
	before, after, proof := headerOf("L"+one), headerOf(top), sized("L"+two, top)
	for _, x := range []struct {
		width                int
		before, after, proof string
		place                string
		cause                error
	}{
		{33, before, after, proof, "width: ", fault.Form},
		{4, before[1:], after, proof, "before: header: ", fault.Form},
		{4, before, after + "\x00", proof, "after: header: ", fault.Form},
		{4, before, after, proof[1:], "proof: node 0: ", fault.Form},
		{4, before, after, sized("E", "L"+two[1:], top), "proof: node 1: ", fault.Form},
		{4, before, after, sized("L"+two, "X"), "proof: node 1: letter: ", fault.Form},
		{4, before, after, sized(top, "L"+two), "proof: node 1: ", fault.Form},
		{4, before, after, sized("E", "L"+two, top), "proof: node: ", fault.Unmet},
		{4, before, after, sized("L" + two), "proof: node: ", fault.Unmet},
		{4, before, after, sized(top), "proof: what is left: ", fault.Unlike},
		{4, before, after, "", "proof: what is left: ", fault.Unlike},
		{4, headerOf(twice), after, sized("L"+one, twice), "before: node: ", fault.Twice},
		{4, before, headerOf(branch(0, other, "L"+two)), sized("L"+two, other, branch(0, other, "L"+two)), "after: key: ", fault.Twice},
		{4, before, headerOf(branch(9, low, "L"+two)), sized("L"+two, low, branch(9, low, "L"+two)), "after: bit: ", fault.Form},
	} {
		got, err := Differ(x.width, x.before, x.after, x.proof)
		if got != nil || !errors.Is(err, x.cause) || !strings.HasPrefix(err.Error(), x.place) {
			t.Errorf("Differ = %v, %v, want %s%v", got, err, x.place, x.cause)
		}
	}
}

func TestNodesOfOneDigestAreTold(t *testing.T) {
	first := "Lk\x00\x00\x00\x00\x00\x00\x00\x00\x00\x00"
	for owner := byte(1); owner != 0; owner++ {
		second := first[:11] + string([]byte{owner})
		if hash(1, first) != hash(1, second) {
			continue
		}
		if _, err := readNodes(1, sized(first, second)); !errors.Is(err, fault.Twice) || !strings.HasPrefix(err.Error(), "node 1: digest: ") {
			t.Errorf("two nodes of one digest: %v", err)
		}
		return
	}
	t.Fatal("no two nodes have one digest")
}

// TestDownGoesOnAsLongAsMoreIsWanted has a node that leads to itself, by both its sides.
func TestDownGoesOnAsLongAsMoreIsWanted(t *testing.T) {
	for zero := range 256 {
		d := string([]byte{byte(zero)})
		text := "N\x00\x00" + d + d
		if hash(1, text) != d {
			continue
		}
		told, err := readNodes(1, sized(text))
		if err != nil {
			t.Fatal(err)
		}
		seen := 0
		for s := range told.down(d) {
			if seen++; !s.isMet || seen == 1000 {
				break
			}
		}
		if seen != 1000 {
			t.Errorf("%d spots were seen, 1000 were wanted", seen)
		}
		return
	}
	t.Skip("no node leads to itself by both its sides")
}
