// Package wrap: faults within, wrapped by the part of a thing that they are of.
package wrap

import (
	"strconv"

	"plenum/api"
)

// Fault is a number of api as an error, which errors.As finds however deep it is wrapped.
type Fault api.Errno

func (f Fault) Error() string {
	return "error " + strconv.Itoa(int(f))
}

// part is a fault and the name of what it is of.
type part struct {
	name string
	err  error
}

func (p part) Error() string {
	return p.name + ": " + p.err.Error()
}

func (p part) Unwrap() error {
	return p.err
}

// Part wraps what is wrong with the part of that name.
func Part(name string, err error) error {
	return part{name, err}
}
