// Package fault: what can be wrong, and where it happened.
package fault

import (
	"errors"
	"strconv"
)

// What can be wrong. Ask by errors.Is: on its way out each is wrapped with where it happened.
var (
	Form   = errors.New("bytes or numbers that may not be")
	Tip    = errors.New("not the next block")
	Input  = errors.New("a coin that is not there")
	Exists = errors.New("a coin that is there already")
	Sum    = errors.New("more goes out than comes in, or a sum is too great")
	Root   = errors.New("not the state that was told")
	Range  = errors.New("a height that is not kept")
	Torn   = errors.New("bytes that are no records which can be done")
	Astray = errors.New("a way that does not lead to the coin")
	Alike  = errors.New("nothing that is different")
	Twice  = errors.New("what may be there but once")
	Unmet  = errors.New("a node that is not met")
	Unlike = errors.New("two trees that are different in what is not told")
)

// Place is an error with where it happened.
type Place struct {
	Where string
	Cause error
}

func (p *Place) Error() string { return p.Where + ": " + p.Cause.Error() }

// Unwrap lets errors.Is see what was wrong, through all the places that it was wrapped with.
func (p *Place) Unwrap() error { return p.Cause }

// At wraps an error with where it happened; where there is none, there is none.
func At(where string, err error) error {
	if err == nil {
		return nil
	}
	return &Place{Where: where, Cause: err}
}

// Each takes one step for every part of a list, as long as none goes wrong; a wrong one is told with its number.
func Each[T any](what string, list []T, step func(i int, part T) error) error {
	for i, part := range list {
		if err := step(i, part); err != nil {
			return At(what+" "+strconv.Itoa(i), err)
		}
	}
	return nil
}
