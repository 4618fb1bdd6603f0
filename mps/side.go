package mps

import (
	"cutwater/api"
	"cutwater/rat"
)

// side is a variable's Lo, or its Hi.
type side struct {
	told bool // BOUNDS tells it, or that there is none
	has  bool
	at   api.Rat
}

// at gives a side that is told.
func at(a api.Rat) side { return side{told: true, has: true, at: a} }

// none gives a side of which it is told that there is none.
func none() side { return side{told: true} }

// unless gives the other side, if that is told.
func (s side) unless(other side) side {
	if other.told {
		return other
	}
	return s
}

// wordsOf gives how many words there are in a line of BOUNDS of that kind; 0, if there is no such kind.
func wordsOf(kind string) int {
	switch kind {
	case "UP", "LO", "FX":
		return 4
	case "MI", "PL", "FR", "BV":
		return 3
	}
	return 0
}

// sides gives what a kind, with its number, tells of Lo and Hi.
func sides(kind string, a api.Rat) (lo, hi side) {
	switch kind {
	case "LO":
		lo = at(a)
	case "FX":
		lo = at(a)
		fallthrough
	case "UP":
		hi = at(a)
	case "MI":
		lo = none()
	case "FR":
		lo = none()
		fallthrough
	case "PL":
		hi = none()
	case "BV":
		lo, hi = at(rat.Whole(0)), at(rat.Whole(1))
	}
	return lo, hi
}
