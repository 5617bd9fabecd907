package trove_test

import (
	"maps"
	"slices"

	"trove/api"
)

// record is a record's bytes.
func record(letter, content string) string {
	s := letter + sized(content)
	return s + hash(4, s)
}

// wholeRecord is the record that bytes begin with, if it is a whole one.
func wholeRecord(s string) (letter, content string, ok bool) {
	if len(s) < 7 {
		return "", "", false
	}
	end := 3 + int(value(s[1:3]))
	if len(s) < end+4 || s[end:end+4] != hash(4, s[:end]) {
		return "", "", false
	}
	return s[:1], s[3:end], true
}

// modelOpen is a model of a log's bytes, the place behind its last record, and the answer.
func modelOpen(log string) (*model, int, api.Errno) {
	letter, content, ok := wholeRecord(log)
	if !ok || letter != "G" || len(content) < 2 {
		return nil, 0, api.ErrForm
	}
	width, count := int(content[0]), int(content[1])
	if width < 1 || width > api.MaxWidth || count < 1 || count > api.MaxOuts || len(content) != 2+9*count {
		return nil, 0, api.ErrForm
	}
	var outs []api.Out
	for text := range slices.Chunk([]byte(content[2:]), 9) {
		outs = append(outs, api.Out{Amount: value(string(text[:8])), Owner: text[8]})
	}
	m := newModel(width, outs)
	place := len(m.log)
	for place < len(log) {
		letter, content, ok := wholeRecord(log[place:])
		if !ok || !m.redone(letter, content) {
			return m, place, api.ErrTorn
		}
		place += 7 + len(content)
	}
	return m, place, api.OK
}

func (m *model) redone(letter, content string) bool {
	switch letter {
	case "B":
		return m.submit(content) == api.OK
	case "P":
		return len(content) == 4 && m.prune(int(value(content))) == api.OK
	}
	return false
}

// copied is a model of its own, which goes on alike.
func (m *model) copied() *model {
	other := *m
	other.headers, other.states = slices.Clone(m.headers), slices.Clone(m.states)
	other.state = maps.Clone(m.state)
	return &other
}

// behind is the model behind a block; the model itself stays as it is.
func (m *model) behind(block string) *model {
	next := m.copied()
	next.submit(block)
	return next
}
