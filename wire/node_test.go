package wire

import (
	"errors"
	"reflect"
	"strings"
	"testing"

	"trove/api"
	"trove/fault"
)

func TestTextsOfNodes(t *testing.T) {
	leaf, err := Leaf{Key: "ab\x01", Out: api.Out{Amount: 0x0102, Owner: 3}}.Node().Text(2)
	if leaf != "Lab\x01\x00\x00\x00\x00\x00\x00\x01\x02\x03" || err != nil {
		t.Errorf("a leaf's text = %x, %v", leaf, err)
	}
	branch, err := Branch{Bit: 255, Sides: [2]string{strings.Repeat("a", 31), strings.Repeat("b", 31)}}.Node().Text(31)
	if branch != "N\x00\xff"+strings.Repeat("a", 31)+strings.Repeat("b", 31) || err != nil {
		t.Errorf("a branch's text = %x, %v", branch, err)
	}
}

func TestNodesThatAreNotWritten(t *testing.T) {
	for _, leaf := range []Leaf{{}, {Key: "ab"}, {Key: "ab\x01\x01"}, {Key: "ab\x03"}, {Key: "ab\xff"}} {
		if text, err := leaf.Node().Text(2); text != "" || !errors.Is(err, fault.Form) {
			t.Errorf("the text of %v = %x, %v", leaf, text, err)
		}
	}
	for _, branch := range []Branch{
		{Bit: 24, Sides: [2]string{"ab", "cd"}}, {Bit: -1, Sides: [2]string{"ab", "cd"}}, {Bit: 1 << 16, Sides: [2]string{"ab", "cd"}},
		{Sides: [2]string{"a", "cd"}}, {Sides: [2]string{"ab", "cde"}},
	} {
		if text, err := branch.Node().Text(2); text != "" || !errors.Is(err, fault.Form) {
			t.Errorf("the text of %v = %x, %v", branch, text, err)
		}
	}
}

var someWay = Way{
	Steps:   []Step{{Bit: 0, Other: "xy"}, {Bit: 23, Other: "zz"}},
	HasLeaf: true,
	Leaf:    Leaf{Key: "ab\x02", Out: api.Out{Amount: 1, Owner: 2}},
}

const someWayText = "\x00\x02" + "\x00\x00xy" + "\x00\x17zz" + "ab\x02" + "\x00\x00\x00\x00\x00\x00\x00\x01\x02"

func readWay(text string) (Way, error) {
	r := NewReader(2, text)
	way := r.Way(Way{})
	return way, r.Done()
}

func TestWaysAreReadAsTheyWereWritten(t *testing.T) {
	for text, way := range map[string]Way{
		someWayText:                   someWay,
		"\x00\x00":                    {},
		"\x00\x00" + someWayText[10:]: {Steps: []Step{}, HasLeaf: true, Leaf: someWay.Leaf},
	} {
		if got := written(t, 2, func(w *Writer) { w.Way(way) }); got != text {
			t.Errorf("a way is written as %x, want %x", got, text)
		}
		if got, err := readWay(text); !reflect.DeepEqual(got, way) || err != nil {
			t.Errorf("a way is read as %v, %v, want %v", got, err, way)
		}
	}
}

func TestWaysThatAreNone(t *testing.T) {
	bad := []string{someWayText + "\x00", "\x00\x19" + strings.Repeat("\x00", 25*4+12), "\xff\xff"}
	for n := range len(someWayText) {
		bad = append(bad, someWayText[:n])
	}
	for _, bits := range []string{"\x00\x00\x00\x00", "\x00\x01\x00\x00", "\x00\x00\x00\x18", "\x01\x00\x01\x01"} {
		bad = append(bad, "\x00\x02"+bits[:2]+"xy"+bits[2:]+someWayText[8:])
	}
	for _, text := range bad {
		if _, err := readWay(text); !errors.Is(err, fault.Form) {
			t.Errorf("reading the way %x: %v", text, err)
		}
	}
	w := NewWriter(2)
	w.Way(Way{Steps: someWay.Steps})
	if text, err := w.Done(); text != "" || !errors.Is(err, fault.Form) {
		t.Errorf("a way with steps, but no leaf, is written as %x, %v", text, err)
	}
}

func readNode(text string) (Node, error) {
	r := NewReader(2, text)
	node := r.Node(Node{})
	return node, r.Done()
}

func TestNodesAreReadAsTheyWereWritten(t *testing.T) {
	for text, node := range map[string]Node{
		"E": {Letter: "E"},
		"Lab\x01\x00\x00\x00\x00\x00\x00\x01\x02\x03": Leaf{Key: "ab\x01", Out: api.Out{Amount: 0x0102, Owner: 3}}.Node(),
		"N\x00\x17abcd": Branch{Bit: 23, Sides: [2]string{"ab", "cd"}}.Node(),
	} {
		if got, err := node.Text(2); got != text || err != nil {
			t.Errorf("the text of %v = %x, %v, want %x", node, got, err, text)
		}
		if got, err := readNode(text); got != node || err != nil {
			t.Errorf("%x is read as %v, %v, want %v", text, got, err, node)
		}
		for n := range len(text) {
			if got, err := readNode(text[:n]); !errors.Is(err, fault.Form) {
				t.Errorf("%x is read as %v, %v", text[:n], got, err)
			}
		}
		for _, bad := range []string{text + "\x00", "e" + text[1:], "\x00" + text} {
			if got, err := readNode(bad); !errors.Is(err, fault.Form) {
				t.Errorf("%x is read as %v, %v", bad, got, err)
			}
		}
	}
	for _, node := range []Node{{}, {Letter: "X"}, {Letter: "EE"}, {Letter: "L"}, {Letter: "N"}} {
		if text, err := node.Text(2); text != "" || !errors.Is(err, fault.Form) {
			t.Errorf("the text of %v = %x, %v", node, text, err)
		}
	}
}

func readDifference(text string) ([]string, error) {
	r := NewReader(2, text)
	texts := r.Difference(nil)
	return texts, r.Done()
}

func TestDifferencesAreReadAsTheyWereWritten(t *testing.T) {
	long := strings.Repeat("z", 300)
	for text, parts := range map[string][]string{
		"":                                   nil,
		"\x00\x01a":                          {"a"},
		"\x00\x01a\x00\x02ab\x01\x2c" + long: {"a", "ab", long},
		"\x00\x00\x00\x01a":                  {"", "a"},
	} {
		if got := written(t, 2, func(w *Writer) { w.Difference(parts) }); got != text {
			t.Errorf("%q is written as %x, want %x", parts, got, text)
		}
		if got, err := readDifference(text); !reflect.DeepEqual(got, parts) || err != nil {
			t.Errorf("%x is read as %q, %v, want %q", text, got, err, parts)
		}
	}
}

func TestDifferencesThatAreNone(t *testing.T) {
	for _, text := range []string{"\x00", "\x00\x01", "\x00\x02a", "\x00\x01a\x00", "\x00\x01b\x00\x01a", "\x00\x01a\x00\x01a", "\x00\x02ab\x00\x01a", "\xff\xffa"} {
		if got, err := readDifference(text); !errors.Is(err, fault.Form) {
			t.Errorf("%x is read as %q, %v", text, got, err)
		}
	}
	_, err := readDifference("\x00\x01a\x00\x01b\x00\x02c")
	if want := "node 2: " + fault.Form.Error(); err == nil || err.Error() != want {
		t.Errorf("told is %v, want %s", err, want)
	}
	for _, parts := range [][]string{{"b", "a"}, {"a", "a"}, {strings.Repeat("a", 1<<16)}} {
		w := NewWriter(2)
		w.Difference(parts)
		if text, err := w.Done(); text != "" || !errors.Is(err, fault.Form) {
			t.Errorf("%.20q is written as %x, %v", parts, text, err)
		}
	}
}
