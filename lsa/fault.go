package lsa

import (
	"errors"

	"plenum/api"
)

var (
	errArg   = errors.New("something that may not be")
	errShort = errors.New("bytes that end too soon")
	errForm  = errors.New("bytes that say nothing")
	errSum   = errors.New("a check sum that is not right")
	errKind  = errors.New("a kind that is not known")
)

// number is that of the fault that is wrapped in err; of none it is OK.
func number(err error) api.Errno {
	switch {
	case errors.Is(err, errArg):
		return api.ErrArg
	case errors.Is(err, errShort):
		return api.ErrShort
	case errors.Is(err, errForm):
		return api.ErrForm
	case errors.Is(err, errSum):
		return api.ErrSum
	case errors.Is(err, errKind):
		return api.ErrKind
	}
	return api.OK
}
