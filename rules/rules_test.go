package rules

import (
	"math"
	"slices"
	"strings"
	"testing"

	"cutwater/api"
)

// mark is what stands in the spare room of lists that are handed in.
const mark = 0xdeadbeef

// roomy gives a copy of a list with marks in its spare room.
func roomy(a []uint64) []uint64 {
	out := append(slices.Clone(a), mark, mark, mark)
	return out[:len(a)]
}

// whole gives a list with its spare room.
func whole(a []uint64) []uint64 { return a[:cap(a)] }

// numbers gives fractions in forms of all kinds.
func numbers() []api.Rat {
	long := make([]uint64, 70)
	for i := range long {
		long[i] = uint64(i) * 0x9e3779b97f4a7c15
	}
	lists := [][]uint64{
		nil, {}, {0}, {0, 0, 0}, {1}, {1, 0}, {6, 0, 0}, {math.MaxInt64}, {1 << 63}, {1<<63 + 1}, {math.MaxUint64},
		{0, 1}, {0, 1, 0}, {math.MaxUint64, math.MaxUint64}, {1, 0, 1 << 63}, long, long[:40], append(long[1:34:34], 0, 0),
	}
	dens := [][]uint64{nil, {1}, {0}, {2, 0}, {6}, {0, 1}, {0, 0}, {1, 0}, long[1:30], {0, 3, 0}, {math.MaxUint64}, {}}
	var out []api.Rat
	for i, l := range lists {
		den := dens[i%len(dens)]
		out = append(out, api.Rat{Num: api.Int{Abs: l}, Den: den}, api.Rat{Num: api.Int{Neg: true, Abs: l}, Den: den})
	}
	return out
}

// all gives what calls are given in these tests.
func all() []given {
	counts := []int{0, 1, -1, 63, 64, 65, api.MaxShift, api.MaxShift + 1, math.MaxInt, math.MinInt}
	texts := []string{"", "-", "+", "0", "-0", "17", "-17", "+-1", "1x", "\xff\x00", strings.Repeat("8", 200), "-" + strings.Repeat("8", 200), strings.Repeat("8", 201), "-" + strings.Repeat("8", 201),
		"-6/4", "6/-4", "1/0", "12.50", ".5", "-2.5e-1", "1e99", "1e-100", "0.0E+00"}
	var out []given
	for _, a := range numbers() {
		for _, b := range numbers() {
			i := len(out)
			out = append(out, given{a, b, counts[i%len(counts)], counts[i/len(counts)%len(counts)], texts[i%len(texts)]})
		}
	}
	return out
}

// fresh gives the same in memory of its own, with marks in the spare room.
func fresh(g given) given {
	for _, l := range g.lists() {
		*l = roomy(*l)
	}
	return g
}

// asText gives all that was answered.
func asText(a answer) string {
	var s strings.Builder
	s.WriteString(a.e.Error() + " " + a.other)
	for _, l := range a.lists {
		s.WriteString("|")
		for _, w := range l {
			for w > 0 {
				s.WriteByte(byte('a' + w%16))
				w /= 16
			}
			s.WriteString(".")
		}
	}
	return s.String()
}

// P1; rule 7: no call panics, whatever it is given; and P2: the same calls in another order give the same answers.
func TestSameAnswers(t *testing.T) {
	list, games := calls(), all()
	first := map[string][]string{}
	for _, c := range list {
		for _, g := range games {
			first[c.name] = append(first[c.name], asText(c.run(g)))
		}
	}
	for i, g := range slices.Backward(games) {
		for _, c := range slices.Backward(list) {
			if got := asText(c.run(fresh(g))); got != first[c.name][i] {
				t.Fatalf("%s(%v) = %q, then %q", c.name, g, first[c.name][i], got)
			}
		}
	}
}

// Rule 2: beside an error all else is a zero value; each error comes at least once.
func TestZeroBesideErrors(t *testing.T) {
	met := map[string]bool{}
	for _, c := range calls() {
		for _, g := range all() {
			a := c.run(g)
			if a.e == api.OK {
				continue
			}
			met[c.name+" "+a.e.Error()] = true
			if !a.empty {
				t.Errorf("%s(%v) = %v", c.name, g, a)
			}
		}
	}
	for _, want := range []struct {
		name string
		e    api.Errno
	}{
		{"nat.Sub", api.ErrBelow}, {"nat.DivMod", api.ErrZero}, {"nat.Shl", api.ErrArg}, {"nat.Shr", api.ErrArg}, {"nat.Parse", api.ErrDigit}, {"nat.Parse", api.ErrLong},
		{"zint.To", api.ErrLong}, {"zint.DivFloor", api.ErrZero}, {"zint.Parse", api.ErrDigit}, {"zint.Parse", api.ErrLong},
		{"rat.Make", api.ErrZero}, {"rat.Of", api.ErrZero}, {"rat.Div", api.ErrZero},
		{"ratext.Parse", api.ErrDigit}, {"ratext.Parse", api.ErrLong}, {"ratext.Parse", api.ErrZero},
	} {
		if !met[want.name+" "+want.e.Error()] {
			t.Errorf("%s never answered %v", want.name, want.e)
		}
	}
}

// Rule 4: a nil list is as good as one without elements; and a number's words 0 at its end make no difference.
func TestFormsAlike(t *testing.T) {
	forms := [][]uint64{nil, {}, {0}, {0, 0}}
	longer := func(a []uint64) []uint64 { return append(slices.Clone(a), 0, 0) }
	for _, c := range calls() {
		for _, g := range all() {
			want := asText(c.run(g))
			h := g
			for _, l := range h.lists() {
				*l = longer(*l)
			}
			if got := asText(c.run(h)); got != want {
				t.Errorf("%s(%v) = %q, with words 0: %q", c.name, g, want, got)
			}
		}
		for _, f := range forms {
			g, h := given{}, given{a: api.Rat{Num: api.Int{Abs: f}, Den: f}, b: api.Rat{Num: api.Int{Neg: true, Abs: f}, Den: f}}
			if got, want := asText(c.run(h)), asText(c.run(g)); got != want {
				t.Errorf("%s of 0 as %v = %q, not %q", c.name, f, got, want)
			}
		}
	}
}

// P1.5, P2.4, P3.4, P4.3; rule 5: what is handed in isn't changed, its spare room neither.
func TestArgumentsStay(t *testing.T) {
	for _, c := range calls() {
		for _, g := range all() {
			h, kept := fresh(g), fresh(g)
			c.run(h)
			for i, l := range h.lists() {
				n := len(*l) + 3
				if !slices.Equal(whole(*l)[:n], whole(*kept.lists()[i])[:n]) {
					t.Errorf("%s(%v) changed what was handed in", c.name, g)
				}
			}
		}
	}
}

// apart tells whether no two of these lists share memory, in their spare room neither.
func apart(lists [][]uint64) bool {
	for i, l := range lists {
		for j := range whole(l) {
			whole(l)[j] = uint64(i)
		}
	}
	for i, l := range lists {
		for _, w := range whole(l) {
			if w != uint64(i) {
				return false
			}
		}
	}
	return true
}

// P1.5, P2.4, P3.4, P4.3; rule 5: answers are new memory.
func TestAnswersAreNew(t *testing.T) {
	for _, c := range calls() {
		for _, g := range all() {
			h := fresh(g)
			one, two := c.run(h), c.run(h)
			lists := append(one.lists, two.lists...)
			for _, l := range h.lists() {
				lists = append(lists, *l)
			}
			if !apart(lists) {
				t.Errorf("%s(%v) shares memory", c.name, g)
			}
		}
	}
}

// P1.5, P2.4, P3.4, P4.3; rule 5: nothing is wrong when one list is handed in twice, and nothing was kept of it.
func TestOneListTwice(t *testing.T) {
	for _, c := range calls() {
		for _, g := range all() {
			g.b = api.Rat{Num: api.Int{Neg: g.b.Num.Neg, Abs: g.a.Num.Abs}, Den: g.a.Num.Abs}
			want := asText(c.run(fresh(g)))
			h := fresh(g)
			h.b.Num.Abs, h.b.Den = h.a.Num.Abs, h.a.Num.Abs
			got := c.run(h)
			for _, l := range h.lists() {
				clear(whole(*l))
			}
			if text := asText(got); text != want {
				t.Errorf("%s(%v) = %q, not %q", c.name, g, text, want)
			}
		}
	}
}
