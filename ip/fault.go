package ip

import (
	"errors"

	"plenum/api"
	"plenum/wrap"
)

// number is that of the fault that is wrapped in err; of no error it is OK.
func number(err error) api.Errno {
	var f wrap.Fault
	if errors.As(err, &f) {
		return api.Errno(f)
	}
	return api.OK
}
