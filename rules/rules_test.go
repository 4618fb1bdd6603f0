package rules

import (
	"math/rand"
	"reflect"
	"slices"
	"testing"

	"cutwater/api"
)

// freshAll gives copies in memory of their own.
func freshAll(given []reflect.Value) []reflect.Value {
	var out []reflect.Value
	for _, v := range given {
		out = append(out, fresh(v))
	}
	return out
}

// each calls look for each call with each list of arguments.
func each(look func(c call, given []reflect.Value)) {
	for _, c := range calls() {
		for _, given := range c.games() {
			look(c, given)
		}
	}
}

// P1; rule 7: no call panics, whatever it is given; and P2: the same calls in another order give the same answers.
func TestSameAnswers(t *testing.T) {
	var first []string
	each(func(c call, given []reflect.Value) { first = append(first, texts(c.run(given).results)) })
	for _, c := range slices.Backward(calls()) {
		for _, given := range slices.Backward(c.games()) {
			last := len(first) - 1
			if got := texts(c.run(freshAll(given)).results); got != first[last] {
				t.Fatalf("%s(%s) = %s, then %s", c.name, texts(given), first[last], got)
			}
			first = first[:last]
		}
	}
}

// Rule 2: beside an error all else is a zero value; and a call has no errors but its own, and has these.
func TestErrors(t *testing.T) {
	for _, c := range calls() {
		met := map[api.Errno]bool{}
		for _, given := range c.games() {
			a := c.run(given)
			met[a.err()] = true
			if a.err() != api.OK && !a.empty() || a.err() != api.OK && !slices.Contains(c.errors, a.err()) {
				t.Errorf("%s(%s) = %s", c.name, texts(given), texts(a.results))
			}
		}
		for _, e := range append(c.errors, api.OK) {
			if !met[e] {
				t.Errorf("%s never answered %v", c.name, e)
			}
		}
	}
}

// Rule 4 and the chapters' forms: a nil list is as good as one without elements, and what is told in one form as in another.
func TestFormsAlike(t *testing.T) {
	r := rand.New(rand.NewSource(1))
	each(func(c call, given []reflect.Value) {
		var other []reflect.Value
		for _, v := range given {
			other = append(other, loose(v, r))
		}
		want := texts(c.run(given).results)
		if got := texts(c.run(other).results); got != want {
			t.Errorf("%s(%s) = %s, but of %s %s", c.name, texts(given), want, texts(other), got)
		}
	})
}

// P1.5, P2.4, P3.4, P4.3, P5.3, P6.5, P7.4, P8.2, P9.4, P10.4, P11.6, P12.6, P13.4, P14.5, P15.5, P16.3, P17.3, P18.3, P19.5, P20.3, P21.4, P22.3, P23.2; rule 5: what is handed in isn't changed, its spare room neither.
func TestArgumentsStay(t *testing.T) {
	each(func(c call, given []reflect.Value) {
		handed, kept := freshAll(given), freshAll(given)
		c.run(handed)
		for i, v := range handed {
			if !same(v, kept[i]) {
				t.Errorf("%s(%s) changed what was handed in", c.name, texts(given))
			}
		}
	})
}

// P1.5, P2.4, P3.4, P4.3, P5.3, P6.5, P7.4, P8.2, P9.4, P10.4, P11.6, P12.6, P13.4, P14.5, P15.5, P16.3, P17.3, P18.3, P19.5, P20.3, P21.4, P22.3, P23.2; rule 5: answers are new memory, each list of its own.
func TestAnswersAreNew(t *testing.T) {
	each(func(c call, given []reflect.Value) {
		handed := freshAll(given)
		if !apart(slices.Concat(handed, c.run(handed).results, c.run(handed).results)) {
			t.Errorf("%s(%s) shares memory", c.name, texts(given))
		}
	})
}

// P1.5, P2.4, P3.4, P4.3, P5.3, P6.5, P7.4, P8.2, P9.4, P10.4, P11.6, P12.6, P13.4, P14.5, P15.5, P16.3, P17.3, P18.3, P19.5, P20.3, P21.4, P22.3, P23.2; rule 5: nothing is wrong when one list is handed in at several places, and nothing is kept of it.
func TestOneListTwice(t *testing.T) {
	each(func(c call, given []reflect.Value) {
		for i, v := range given { // where a call takes two of a type, it is given one twice
			given[i] = given[slices.IndexFunc(given, func(w reflect.Value) bool { return w.Type() == v.Type() })]
		}
		want := texts(c.run(freshAll(given)).results)
		var handed []reflect.Value
		seen := map[string]reflect.Value{}
		for _, v := range given {
			handed = append(handed, one(v, seen))
		}
		results := c.run(handed).results
		for _, v := range handed {
			wipe(v)
		}
		if got := texts(results); got != want {
			t.Errorf("%s(%s) = %s, not %s", c.name, texts(given), got, want)
		}
	})
}
