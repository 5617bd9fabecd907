package wire

import (
	"errors"
	"reflect"
	"strings"
	"testing"

	"trove/api"
	"trove/fault"
)

func TestTextsOfNodes(t *testing.T) {
	leaf, err := LeafText(2, Leaf{Key: "ab\x01", Out: api.Out{Amount: 0x0102, Owner: 3}})
	if leaf != "Lab\x01\x00\x00\x00\x00\x00\x00\x01\x02\x03" || err != nil {
		t.Errorf("LeafText = %x, %v", leaf, err)
	}
	branch, err := BranchText(31, Branch{Bit: 255, Sides: [2]string{strings.Repeat("a", 31), strings.Repeat("b", 31)}})
	if branch != "N\x00\xff"+strings.Repeat("a", 31)+strings.Repeat("b", 31) || err != nil {
		t.Errorf("BranchText = %x, %v", branch, err)
	}
}

func TestNodesThatAreNotWritten(t *testing.T) {
	for _, leaf := range []Leaf{{}, {Key: "ab"}, {Key: "ab\x01\x01"}, {Key: "ab\x03"}, {Key: "ab\xff"}} {
		if text, err := LeafText(2, leaf); text != "" || !errors.Is(err, fault.Form) {
			t.Errorf("LeafText(%v) = %x, %v", leaf, text, err)
		}
	}
	for _, branch := range []Branch{
		{Bit: 24, Sides: [2]string{"ab", "cd"}}, {Bit: -1, Sides: [2]string{"ab", "cd"}}, {Bit: 1 << 16, Sides: [2]string{"ab", "cd"}},
		{Sides: [2]string{"a", "cd"}}, {Sides: [2]string{"ab", "cde"}},
	} {
		if text, err := BranchText(2, branch); text != "" || !errors.Is(err, fault.Form) {
			t.Errorf("BranchText(%v) = %x, %v", branch, text, err)
		}
	}
}

var someWay = Way{
	Steps:   []Step{{Bit: 0, Other: "xy"}, {Bit: 23, Other: "zz"}},
	HasLeaf: true,
	Leaf:    Leaf{Key: "ab\x02", Out: api.Out{Amount: 1, Owner: 2}},
}

const someWayText = "\x00\x02" + "\x00\x00xy" + "\x00\x17zz" + "ab\x02" + "\x00\x00\x00\x00\x00\x00\x00\x01\x02"

func readWay(text string) (Way, error) {
	r := NewReader(2, text)
	way := r.Way(Way{})
	return way, r.Done()
}

func TestWaysAreReadAsTheyWereWritten(t *testing.T) {
	for text, way := range map[string]Way{
		someWayText:                   someWay,
		"\x00\x00":                    {},
		"\x00\x00" + someWayText[10:]: {Steps: []Step{}, HasLeaf: true, Leaf: someWay.Leaf},
	} {
		if got := written(t, 2, func(w *Writer) { w.Way(way) }); got != text {
			t.Errorf("a way is written as %x, want %x", got, text)
		}
		if got, err := readWay(text); !reflect.DeepEqual(got, way) || err != nil {
			t.Errorf("a way is read as %v, %v, want %v", got, err, way)
		}
	}
}

func TestWaysThatAreNone(t *testing.T) {
	bad := []string{someWayText + "\x00", "\x00\x19" + strings.Repeat("\x00", 25*4+12), "\xff\xff"}
	for n := range len(someWayText) {
		bad = append(bad, someWayText[:n])
	}
	for _, bits := range []string{"\x00\x00\x00\x00", "\x00\x01\x00\x00", "\x00\x00\x00\x18", "\x01\x00\x01\x01"} {
		bad = append(bad, "\x00\x02"+bits[:2]+"xy"+bits[2:]+someWayText[8:])
	}
	for _, text := range bad {
		if _, err := readWay(text); !errors.Is(err, fault.Form) {
			t.Errorf("reading the way %x: %v", text, err)
		}
	}
	w := NewWriter(2)
	w.Way(Way{Steps: someWay.Steps})
	if text, err := w.Done(); text != "" || !errors.Is(err, fault.Form) {
		t.Errorf("a way with steps, but no leaf, is written as %x, %v", text, err)
	}
}
