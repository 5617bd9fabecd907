package trove

import (
	"errors"

	"trove/api"
	"trove/fault"
)

// errno makes the number of an error, whatever places it was wrapped with.
func errno(err error) api.Errno {
	switch {
	case err == nil:
		return api.OK
	case errors.Is(err, fault.Tip):
		return api.ErrTip
	case errors.Is(err, fault.Input):
		return api.ErrInput
	case errors.Is(err, fault.Exists):
		return api.ErrExists
	case errors.Is(err, fault.Sum):
		return api.ErrSum
	case errors.Is(err, fault.Root):
		return api.ErrRoot
	case errors.Is(err, fault.Range):
		return api.ErrRange
	case errors.Is(err, fault.Torn):
		return api.ErrTorn
	case errors.Is(err, fault.Form):
		return api.ErrForm
	}
	// No error that the program makes comes here; whatever did is no OK.
	return api.ErrForm
}
