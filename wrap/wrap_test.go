package wrap

import (
	"errors"
	"testing"

	"plenum/api"
)

var errInner, errOther = errors.New("inner"), errors.New("other")

// What is wrapped is found and named, however deep it is.
func TestPartIsFound(t *testing.T) {
	for _, c := range []struct {
		err  error
		text string
	}{
		{Part("head", errInner), "head: inner"},
		{Part("packet", Part("head", errInner)), "packet: head: inner"},
		{Part("", errInner), ": inner"},
	} {
		if !errors.Is(c.err, errInner) || errors.Is(c.err, errOther) || c.err.Error() != c.text {
			t.Errorf("%q, not %q", c.err, c.text)
		}
	}
}

// errors.As finds the number of a fault, however deep it is, and none where there is none.
func TestFaultIsFound(t *testing.T) {
	for _, c := range []struct {
		err  error
		text string
	}{
		{Fault(api.ErrForm), "error 3"},
		{Part("head", Fault(api.ErrForm)), "head: error 3"},
		{Part("packet", Part("head", Fault(api.ErrForm))), "packet: head: error 3"},
	} {
		var f Fault
		if !errors.As(c.err, &f) || api.Errno(f) != api.ErrForm || c.err.Error() != c.text {
			t.Errorf("%q is %d, not %q", c.err, f, c.text)
		}
		if !errors.Is(c.err, Fault(api.ErrForm)) || errors.Is(c.err, Fault(api.ErrSum)) {
			t.Errorf("%q is another fault", c.err)
		}
	}
	var f Fault
	if errors.As(nil, &f) || errors.As(Part("head", errInner), &f) {
		t.Error("there is no fault:", f)
	}
}
