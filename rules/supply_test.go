package rules

import (
	"math"
	"reflect"
	"slices"
	"strings"

	"cutwater/api"
	"cutwater/tell"
)

// words gives natural numbers in forms of all kinds.
func words() [][]uint64 {
	long := make([]uint64, 70)
	for i := range long {
		long[i] = uint64(i) * 0x9e3779b97f4a7c15
	}
	return [][]uint64{
		nil, {}, {0}, {0, 0, 0}, {1}, {1, 0}, {6, 0, 0}, {math.MaxInt64}, {1 << 63}, {1<<63 + 1}, {math.MaxUint64},
		{0, 1}, {0, 1, 0}, {math.MaxUint64, math.MaxUint64}, {1, 0, 1 << 63}, long, long[:40], append(long[1:34:34], 0, 0),
	}
}

// ints gives whole numbers likewise.
func ints() []api.Int {
	var out []api.Int
	for _, a := range words() {
		out = append(out, api.Int{Abs: a}, api.Int{Neg: true, Abs: a})
	}
	return out
}

// numbers gives fractions likewise.
func numbers() []api.Rat {
	long := words()[15]
	dens := [][]uint64{nil, {1}, {0}, {2, 0}, {6}, {0, 1}, {0, 0}, {1, 0}, long[1:30], {0, 3, 0}, {math.MaxUint64}, {}}
	var out []api.Rat
	for i, num := range ints() {
		out = append(out, api.Rat{Num: num, Den: dens[i/2%len(dens)]})
	}
	return out
}

// numberLists gives lists of numbers.
func numberLists() [][]api.Rat {
	return [][]api.Rat{nil, {}, {{}}, tell.Rats("1"), tell.Rats("1/2 0 -7/3"), tell.Rats("0 0"), tell.Rats("1 1 1 1 1 1 1 1"), numbers()[12:17], numbers()}
}

// vectors gives vectors in forms of all kinds.
func vectors() [][]api.Term {
	out := [][]api.Term{nil, {}, {{}}, {{Col: -1}}, {{Col: math.MinInt, Val: tell.Rat("1")}, {Col: math.MaxInt, Val: tell.Rat("1/2")}}, {{Col: 5, Val: numbers()[33]}, {Col: 0, Val: numbers()[32]}}}
	for _, s := range []string{"1@0", "-1/2@0 3@2", "2@1 1@0 -2@1", "1@5 -1@5", "1@65535 2@3", "1@65536 1@0", "7@2 7@1 7@0 1/7@2 1/7@0", "1@-3 -1@1"} {
		out = append(out, tell.Vec(s))
	}
	return out
}

// matrices gives matrices likewise.
func matrices() [][][]api.Term {
	out := [][][]api.Term{nil, {}, {nil}, {{}, nil, {{}}}, vectors()[6:8], vectors()[6:9], vectors()[2:4], vectors()}
	for _, s := range []string{"1@0 2@1; 3@1;", "1@0; 1@1; 1@2;", "; -1/2@1; 5@0 5@0 0@2;", "1@3; 2@1 -1/3@2;", "1@65536;", "1@0; 1@9223372036854775807 3@-1;", "1@0 1@1; 2@1;", "1/2@0 3@1 -1@2; 1@1; 3@2 100000000000000000000@0;"} {
		out = append(out, tell.Rows(s))
	}
	return out
}

// manyTexts gives texts that are a number's, and such as aren't.
func manyTexts() []string {
	return []string{
		"", "-", "+", "0", "-0", "17", "-17", "+-1", "1x", "\xff\x00", strings.Repeat("8", 200), "-" + strings.Repeat("8", 200), strings.Repeat("8", 201), "-" + strings.Repeat("8", 201),
		"-6/4", "6/-4", "1/0", "12.50", ".5", "-2.5e-1", "1e99", "1e-100", "0.0E+00",
	}
}

// anyOf gives a list as one of values of any type.
func anyOf[T any](list []T) []any {
	var out []any
	for _, a := range list {
		out = append(out, a)
	}
	return out
}

// supply gives what is handed in where a call takes a value of that type.
func supply(of reflect.Type) []any {
	supplies := [][]any{
		anyOf([]bool{false, true}),
		anyOf([]int{0, 1, -1, 2, 3, 6, 63, 64, 65, api.MaxShift, api.MaxShift + 1, math.MaxInt, math.MinInt}),
		anyOf([]int64{0, 1, -1, 12, -18, 1 << 40, math.MaxInt64, math.MinInt64}),
		anyOf(manyTexts()),
		anyOf(words()),
		anyOf(ints()),
		anyOf(numbers()),
		anyOf([][]int{nil, {}, {0}, {1, 0}, {0, 1}, {2, 0, 1}, {1, 2}, {0, 0}, {0, 1, 1}, {-1, 0}, {3, 2, 1, 0}, {math.MaxInt, math.MinInt}}),
		anyOf(numberLists()),
		anyOf(vectors()),
		anyOf(matrices()),
	}
	i := slices.IndexFunc(supplies, func(list []any) bool { return reflect.TypeOf(list[0]) == of })
	return supplies[i]
}
