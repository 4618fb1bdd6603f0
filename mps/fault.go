package mps

import (
	"errors"
	"strconv"

	"cutwater/api"
)

// fault is an error of a line.
type fault struct {
	no  int // the line's number
	err error
}

// Error tells the line, and what is wrong with it.
func (f fault) Error() string { return "line " + strconv.Itoa(f.no) + ": " + f.err.Error() }

// Unwrap gives what is wrong with the line.
func (f fault) Unwrap() error { return f.err }

// told gives the numbers of an error and of its line.
func told(err error) (api.Errno, int) {
	var e api.Errno
	var f fault
	errors.As(err, &e)
	errors.As(err, &f)
	return e, f.no
}
