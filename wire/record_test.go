package wire

import (
	"crypto/sha256"
	"errors"
	"math"
	"reflect"
	"strings"
	"testing"

	"trove/api"
	"trove/fault"
)

func sealed(text string) string {
	sum := sha256.Sum256([]byte(text))
	return text + string(sum[:4])
}

func recordText(letter, content string) string {
	return sealed(letter + string([]byte{byte(len(content) >> 8), byte(len(content))}) + content)
}

func TestRecordsAreReadAsTheyWereWritten(t *testing.T) {
	for _, content := range []string{"", "a", strings.Repeat("ab", 200), strings.Repeat("x", math.MaxUint16)} {
		for _, width := range []int{1, 32} {
			record := Record{Letter: "R", Content: content}
			text := written(t, width, func(w *Writer) { w.Record(record) })
			if text != recordText("R", content) {
				t.Errorf("a record is written as %x", text)
			}
			// Its digest begins with the record, whatever stands ahead of it.
			text = "ahead" + text + "behind"
			if got := written(t, width, func(w *Writer) { w.Text("ahead", 5); w.Record(record); w.Text("behind", 6) }); got != text {
				t.Errorf("a record with bytes ahead is written as %x", got)
			}
			r := NewReader(width, text)
			r.Text("", 5)
			if got := r.Record(Record{}); got != record || r.Rest() != "behind" {
				t.Errorf("a record is read as %v, with %q behind it", got, r.Rest())
			}
		}
	}
}

func TestRecordsThatAreNotWritten(t *testing.T) {
	for what, write := range map[string]func(*Writer){
		"no letter":             func(w *Writer) { w.Record(Record{Content: "a"}) },
		"two letters":           func(w *Writer) { w.Record(Record{Letter: "AB"}) },
		"too long a content":    func(w *Writer) { w.Record(Record{Letter: "B", Content: strings.Repeat("a", 1<<16)}) },
		"a width below 0":       func(w *Writer) { w.Start(Start{Width: -1, Outs: make([]api.Out, 1)}) },
		"a width above 255":     func(w *Writer) { w.Start(Start{Width: 256, Outs: make([]api.Out, 1)}) },
		"no outputs":            func(w *Writer) { w.Start(Start{Width: 1}) },
		"four outputs":          func(w *Writer) { w.Start(Start{Width: 1, Outs: make([]api.Out, 4)}) },
		"a floor below 0":       func(w *Writer) { w.Floor(-1) },
		"a floor above 4 bytes": func(w *Writer) { w.Floor(1 << 32) },
	} {
		w := NewWriter(2)
		write(w)
		if text, err := w.Done(); text != "" || !errors.Is(err, fault.Form) {
			t.Errorf("writing %s: %x, %v", what, text, err)
		}
	}
}

func TestContents(t *testing.T) {
	start := Start{Width: 32, Outs: []api.Out{{Amount: 5, Owner: 1}, {Amount: math.MaxUint64, Owner: 255}}}
	text := written(t, 2, func(w *Writer) { w.Start(start) })
	if text != "\x20\x02"+"\x00\x00\x00\x00\x00\x00\x00\x05\x01"+strings.Repeat("\xff", 9) {
		t.Errorf("a start is written as %x", text)
	}
	r := NewReader(0, text)
	if got := r.Start(Start{}); !reflect.DeepEqual(got, start) || r.Done() != nil {
		t.Errorf("a start is read as %v, %v", got, r.Done())
	}
	for floor, text := range map[int]string{0: "\x00\x00\x00\x00", 0x01020304: "\x01\x02\x03\x04", 1<<32 - 1: "\xff\xff\xff\xff"} {
		if got := written(t, 2, func(w *Writer) { w.Floor(floor) }); got != text {
			t.Errorf("the floor %d is written as %x", floor, got)
		}
		r := NewReader(2, text)
		if got := r.Floor(7); got != floor || r.Done() != nil {
			t.Errorf("the floor %d is read as %d, %v", floor, got, r.Done())
		}
	}
}

type placed struct {
	record Record
	behind int
}

// recordsOf are those of a log, but no more than are wanted.
func recordsOf(log string, wanted int) []placed {
	var found []placed
	for record, behind := range Records(log) {
		found = append(found, placed{record, behind})
		if len(found) == wanted {
			break
		}
	}
	return found
}

func TestRecordsGoesAsFarAsTheyAreWhole(t *testing.T) {
	first, second, third := recordText("G", "one"), recordText("X", ""), recordText("B", "three")
	all := []placed{{Record{"G", "one"}, 10}, {Record{"X", ""}, 17}, {Record{"B", "three"}, 29}}
	log := first + second + third
	for n := range len(log) + 1 {
		whole := 0
		for whole < 3 && all[whole].behind <= n {
			whole++
		}
		if got := recordsOf(log[:n], -1); len(got) != whole || whole > 0 && !reflect.DeepEqual(got, all[:whole]) {
			t.Errorf("of %d bytes the records are %v, want %v", n, got, all[:whole])
		}
	}
	for wanted := 1; wanted <= 3; wanted++ {
		if got := recordsOf(log, wanted); !reflect.DeepEqual(got, all[:wanted]) {
			t.Errorf("%d records are wanted, and told are %v", wanted, got)
		}
	}
	for i := range len(second) {
		bad := []byte(log)
		bad[len(first)+i] ^= 1
		if got := recordsOf(string(bad), -1); !reflect.DeepEqual(got, all[:1]) {
			t.Errorf("with byte %d of the second turned the records are %v", i, got)
		}
	}
}

func TestAnotherDigestIsToldWithItsPlace(t *testing.T) {
	for text, place := range map[string]string{
		"X\x00\x01adiff":                 "digest: ",
		recordText("X", "a")[:7]:         "",
		recordText("X", "a")[:2]:         "",
		"X\xff\xff" + sealed("anything"): "",
	} {
		r := NewReader(4, text)
		r.Record(Record{})
		if want := place + fault.Form.Error(); r.Done() == nil || r.Done().Error() != want {
			t.Errorf("reading %q tells %v, want %s", text, r.Done(), want)
		}
	}
}
