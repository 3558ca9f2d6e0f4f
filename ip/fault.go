package ip

import (
	"errors"
	"strconv"

	"plenum/api"
)

// fault is a number of api as an error.
type fault api.Errno

func (f fault) Error() string {
	return "error " + strconv.Itoa(int(f))
}

// number is that of the fault that is wrapped in err; of no error it is OK.
func number(err error) api.Errno {
	var f fault
	if errors.As(err, &f) {
		return api.Errno(f)
	}
	return api.OK
}
