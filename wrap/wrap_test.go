package wrap

import (
	"errors"
	"testing"
)

// number is an error that errors.As can look for.
type number int

func (n number) Error() string {
	return "a number"
}

var errInner, errOther = errors.New("inner"), errors.New("other")

// What is wrapped is found and named, however deep it is.
func TestPartIsFound(t *testing.T) {
	for _, c := range []struct {
		err  error
		text string
	}{
		{Part("head", errInner), "head: inner"},
		{Part("packet", Part("head", errInner)), "packet: head: inner"},
		{Part("", errInner), ": inner"},
	} {
		if !errors.Is(c.err, errInner) || errors.Is(c.err, errOther) || c.err.Error() != c.text {
			t.Errorf("%q, not %q", c.err, c.text)
		}
	}
	var n number
	if !errors.As(Part("packet", Part("head", number(7))), &n) || n != 7 {
		t.Error("errors.As does not find what is wrapped:", n)
	}
}
