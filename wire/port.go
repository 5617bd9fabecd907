// Package wire: the ledger's things as bytes.
package wire

import "trove/fault"

// Port is what a reader and a writer have in common: a number or a text, at the place where it stands,
// whether there is more behind it, and the bytes that were passed. A reader answers what is there, whatever it
// is given; a writer puts down what it is given, and answers that.
type Port interface {
	number(n uint64, size int) (uint64, error)
	text(s string, size int) (string, error)
	more(m bool) bool
	place() int
	since(place int) string
}

// Reader takes things from bytes.
type Reader struct {
	Coder
	bytes string
	at    int
}

// NewReader reads the bytes of a ledger of a width. The texts that it answers are pieces of them: copy what is kept.
func NewReader(width int, bytes string) *Reader {
	r := &Reader{bytes: bytes}
	r.Coder = Coder{port: r, width: width}
	return r
}

// Rest tells the bytes that were not read yet.
func (r *Reader) Rest() string { return r.bytes[r.at:] }

// Done tells what was wrong: also, if there are bytes behind what was read.
func (r *Reader) Done() error {
	if r.err == nil && r.more(true) {
		return fault.At("behind the end", fault.Form)
	}
	return r.err
}

func (r *Reader) number(_ uint64, size int) (uint64, error) {
	s, err := r.text("", size)
	n := uint64(0)
	for i := range len(s) {
		n = n<<8 | uint64(s[i])
	}
	return n, err
}

func (r *Reader) text(_ string, size int) (string, error) {
	if len(r.bytes)-r.at < size {
		return "", fault.Form
	}
	start := r.at
	r.at += size
	return r.since(start), nil
}

func (r *Reader) more(bool) bool { return r.at < len(r.bytes) }

func (r *Reader) place() int { return r.at }

func (r *Reader) since(place int) string { return r.bytes[place:r.at] }

// Writer makes bytes of things.
type Writer struct {
	Coder
	bytes []byte
}

// NewWriter writes the bytes of a ledger of a width.
func NewWriter(width int) *Writer {
	w := &Writer{}
	w.Coder = Coder{port: w, width: width}
	return w
}

// Done tells the bytes, or what was wrong with one of the things.
func (w *Writer) Done() (string, error) {
	if w.err != nil {
		return "", w.err
	}
	return string(w.bytes), nil
}

func (w *Writer) number(n uint64, size int) (uint64, error) {
	if n>>(8*size) != 0 {
		return 0, fault.Form
	}
	for i := size - 1; i >= 0; i-- {
		w.bytes = append(w.bytes, byte(n>>(8*i)))
	}
	return n, nil
}

func (w *Writer) text(s string, size int) (string, error) {
	if len(s) != size {
		return "", fault.Form
	}
	w.bytes = append(w.bytes, s...)
	return s, nil
}

func (w *Writer) more(m bool) bool { return m }

func (w *Writer) place() int { return len(w.bytes) }

func (w *Writer) since(place int) string { return string(w.bytes[place:]) }
