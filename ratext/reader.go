package ratext

import "strings"

// left is what is left of a text.
type left struct{ text string }

// reader takes a text from its beginning on.
type reader struct {
	left
	lacks bool // there were no digits where some must be
}

// one takes a byte, if it is one of these.
func (r *reader) one(these string) string {
	if r.text == "" || strings.IndexByte(these, r.text[0]) < 0 {
		return ""
	}
	return r.take(1)
}

// digits takes all digits up to another byte; there must be some.
func (r *reader) digits() string {
	n := len(r.text) - len(strings.TrimLeft(r.text, "0123456789"))
	r.lacks = r.lacks || n == 0
	return r.take(n)
}

// take takes n bytes.
func (r *reader) take(n int) string {
	taken := r.text[:n]
	r.text = r.text[n:]
	return taken
}

// done tells whether all of the text was taken, and lacked nothing.
func (r *reader) done() bool { return r.text == "" && !r.lacks }
