package wire

import (
	"errors"
	"math"
	"reflect"
	"strings"
	"testing"

	"trove/api"
	"trove/fault"
)

func written(t *testing.T, width int, write func(*Writer)) string {
	t.Helper()
	w := NewWriter(width)
	write(w)
	text, err := w.Done()
	if err != nil {
		t.Fatalf("writing: %v", err)
	}
	return text
}

var someTxs = []api.Tx{
	{Ins: []api.Coin{{Tx: "ab", N: 0}, {Tx: "cd", N: 2}}, Outs: []api.Out{{Amount: 0x0102030405060708, Owner: 9}}},
	{Ins: []api.Coin{{Tx: "ef", N: 1}}},
}

const someBody = "\x02" +
	"\x02ab\x00cd\x02\x01\x01\x02\x03\x04\x05\x06\x07\x08\x09" +
	"\x01ef\x01\x00"

func TestBodyIsWritten(t *testing.T) {
	if got := written(t, 2, func(w *Writer) { w.Body(someTxs) }); got != someBody {
		t.Errorf("a body is written as %x, want %x", got, someBody)
	}
}

func TestBodyIsReadAsItWasWritten(t *testing.T) {
	r := NewReader(2, someBody)
	got := r.Body(nil)
	if err := r.Done(); err != nil {
		t.Fatalf("reading: %v", err)
	}
	again := written(t, 2, func(w *Writer) { w.Body(got) })
	if len(got) != 2 || !reflect.DeepEqual(got[0], someTxs[0]) || again != someBody {
		t.Errorf("a body is read as %+v", got)
	}
}

func TestHeader(t *testing.T) {
	h := Header{Height: 0x01020304, Ahead: "ab", Body: "cd", State: "ef"}
	text := written(t, 2, func(w *Writer) { w.Header(h) })
	if text != "\x01\x02\x03\x04abcdef" {
		t.Errorf("a header is written as %x", text)
	}
	r := NewReader(2, text+"rest")
	if got := r.Header(Header{}); got != h || r.Rest() != "rest" {
		t.Errorf("a header is read as %+v, with %q behind it", got, r.Rest())
	}
	if err := r.Done(); !errors.Is(err, fault.Form) {
		t.Errorf("bytes behind the end: %v", err)
	}
}

func TestEveryFirstPartOfABodyIsRefused(t *testing.T) {
	for n := range len(someBody) {
		r := NewReader(2, someBody[:n])
		r.Body(nil)
		if err := r.Done(); !errors.Is(err, fault.Form) {
			t.Errorf("the first %d bytes of a body: %v", n, err)
		}
	}
}

func TestBodiesThatAreNone(t *testing.T) {
	for what, body := range map[string]string{
		"four transactions":     "\x04" + strings.Repeat("\x01ab\x00\x00", 4),
		"no coins":              "\x01\x00\x00",
		"four coins":            "\x01\x04" + strings.Repeat("ab\x00", 4) + "\x00",
		"four outputs":          "\x01\x01ab\x00\x04" + strings.Repeat("\x00", 36),
		"a coin of number 3":    "\x01\x01ab\x03\x00",
		"a coin of number 255":  "\x01\x01ab\xff\x00",
		"255 transactions":      "\xff",
		"a byte behind the end": "\x00\x00",
	} {
		r := NewReader(2, body)
		r.Body(nil)
		if err := r.Done(); !errors.Is(err, fault.Form) {
			t.Errorf("reading a body with %s: %v", what, err)
		}
	}
}

func TestThingsThatAreNotWritten(t *testing.T) {
	coin := func(tx string, n int) func(*Writer) {
		return func(w *Writer) { w.Coin(api.Coin{Tx: tx, N: n}) }
	}
	for what, write := range map[string]func(*Writer){
		"a short id":               coin("a", 0),
		"a long id":                coin("abc", 0),
		"number 3":                 coin("ab", 3),
		"number -1":                coin("ab", -1),
		"number 256":               coin("ab", 256),
		"the least number":         coin("ab", math.MinInt),
		"the greatest number":      coin("ab", math.MaxInt),
		"a height above 4 bytes":   func(w *Writer) { w.Number(1<<32, 4) },
		"257 transactions":         func(w *Writer) { w.Body(make([]api.Tx, 257)) },
		"256 first outputs":        func(w *Writer) { w.FirstOuts(make([]api.Out, 256)) },
		"no first outputs":         func(w *Writer) { w.FirstOuts(nil) },
		"a good part behind a bad": func(w *Writer) { w.Text("abc", 2); w.Text("ab", 2) },
	} {
		w := NewWriter(2)
		write(w)
		if text, err := w.Done(); text != "" || !errors.Is(err, fault.Form) {
			t.Errorf("writing %s: %x, %v", what, text, err)
		}
	}
}

func TestAWrongPartIsToldWithItsPlace(t *testing.T) {
	w := NewWriter(2)
	w.Body([]api.Tx{someTxs[1], {Ins: []api.Coin{{Tx: "ab"}, {Tx: "a"}}}})
	_, err := w.Done()
	if want := "transaction 1: coin 1: " + fault.Form.Error(); err == nil || err.Error() != want {
		t.Errorf("told is %v, want %s", err, want)
	}
}
