package mps

import (
	"errors"
	"testing"

	"cutwater/api"
)

// An error of a line tells both, and is what it wraps.
func TestFault(t *testing.T) {
	_, err := read("NAME\n\nROWS\n N\n")
	if e, no := told(err); e != api.ErrField || no != 4 || !errors.Is(err, api.ErrField) || err.Error() != "line 4: errno 80" {
		t.Errorf("%v, %d, %v", e, no, err)
	}
}
