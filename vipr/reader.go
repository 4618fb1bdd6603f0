package vipr

import (
	"slices"
	"strconv"
	"strings"

	"cutwater/api"
	"cutwater/nat"
	"cutwater/rat"
	"cutwater/words"
	"cutwater/zint"
)

const (
	blanks    = " \t\r\n"
	mostCount = 1000000
)

// reader takes words from a text's beginning on. Each of its methods gives up at a word that can't stand where it does.
type reader struct {
	rest string
	no   int // of the word taken last
}

// fail gives up at the word taken last.
func (r *reader) fail(e api.Errno) { panic(fault{e, r.no}) }

// next takes a word; there must be one.
func (r *reader) next() string {
	r.rest = strings.TrimLeft(r.rest, blanks)
	end := strings.IndexAny(r.rest, blanks)
	if end < 0 {
		end = len(r.rest)
	}
	word := r.rest[:end]
	r.rest = r.rest[end:]
	r.no++
	if word == "" || !words.Plain(word) {
		r.fail(api.ErrWord)
	}
	return word
}

// end takes all that is left; there must be no word.
func (r *reader) end() {
	if strings.Trim(r.rest, blanks) != "" {
		r.next()
		r.fail(api.ErrTail)
	}
}

// one takes a word that must be one of these, and gives its place among them.
func (r *reader) one(e api.Errno, these ...string) int {
	place := slices.Index(these, r.next())
	if place < 0 {
		r.fail(e)
	}
	return place
}

// name takes a name.
func (r *reader) name() string {
	word := r.next()
	if !words.Name(word) {
		r.fail(api.ErrWord)
	}
	return strings.Clone(word)
}

// count takes a count.
func (r *reader) count() int { return r.countOf(r.next()) }

// countOf gives the count that the word tells that was taken last.
func (r *reader) countOf(word string) int {
	n := r.small(word)
	if n > mostCount {
		r.fail(api.ErrNumber)
	}
	return n
}

// place takes a place, which must be least or more, and below end.
func (r *reader) place(least, end int) int {
	n := r.small(r.next())
	if n < least || n >= end {
		r.fail(api.ErrIndex)
	}
	return n
}

// small gives the number that digits tell; the greatest int, if it is greater than that.
func (r *reader) small(digits string) int {
	if strings.Trim(digits, "0123456789") != "" {
		r.fail(api.ErrNumber)
	}
	n, _ := strconv.Atoi(digits) // beside its only error here, that of size, Atoi gives the greatest int
	return n
}

// number takes a number.
func (r *reader) number() api.Rat { return r.numberOf(r.next()) }

// numberOf gives the number that the word tells that was taken last.
func (r *reader) numberOf(word string) api.Rat {
	below := word[0] == '-'
	if below || word[0] == '+' {
		word = word[1:]
	}
	num, den, parted := strings.Cut(word, "/")
	if !parted {
		den = "1"
	}
	a, e := rat.Make(zint.Make(below, r.natural(num)), zint.Make(false, r.natural(den)))
	if e != api.OK {
		r.fail(api.ErrNumber)
	}
	return a
}

// natural gives the number that digits tell, however many these are.
func (r *reader) natural(digits string) []uint64 {
	out, e := nat.Parse(digits)
	switch e {
	case api.ErrLong:
		return long(digits)
	case api.ErrDigit:
		r.fail(api.ErrNumber)
	}
	return out
}

// long gives the number that digits tell of which there are more than layer 1 reads at once.
func long(digits string) []uint64 {
	const group = api.MaxDigits - 1 // a 1 and as many noughts can be read, too
	power, _ := nat.Parse("1" + strings.Repeat("0", group))
	first := len(digits) % group
	out, _ := nat.Parse("0" + digits[:first])
	for ; first < len(digits); first += group {
		next, _ := nat.Parse(digits[first : first+group])
		out = nat.Add(nat.Mul(out, power), next)
	}
	return out
}
