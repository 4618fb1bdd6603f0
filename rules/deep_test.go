package rules

import (
	"cmp"
	"fmt"
	"math/rand"
	"reflect"
	"slices"
	"strconv"
	"strings"

	"cutwater/api"
	"cutwater/tell"
)

// spare is how much spare room the lists have that are handed in.
const spare = 3

// whole gives a list with its spare room.
func whole(list reflect.Value) reflect.Value { return list.Slice(0, list.Cap()) }

// size is how many elements a list has, or how many fields a struct; 0 of another value.
func size(v reflect.Value) int {
	switch v.Kind() {
	case reflect.Slice:
		return v.Len()
	case reflect.Struct:
		return v.NumField()
	}
	return 0
}

// part gives one of these.
func part(v reflect.Value, i int) reflect.Value {
	if v.Kind() == reflect.Slice {
		return v.Index(i)
	}
	return v.Field(i)
}

// fresh gives a copy in memory of its own, each of whose lists has marks in its spare room.
func fresh(v reflect.Value) reflect.Value {
	out := reflect.New(v.Type()).Elem()
	if v.Kind() != reflect.Slice && v.Kind() != reflect.Struct {
		out.Set(v)
	}
	if v.Kind() == reflect.Slice {
		n := v.Len() + spare
		out.Set(reflect.MakeSlice(v.Type(), n, n))
		for i := v.Len(); i < n; i++ {
			setMark(out.Index(i))
		}
		out.SetLen(v.Len())
	}
	for i := range size(v) {
		part(out, i).Set(fresh(part(v, i)))
	}
	return out
}

// setMark makes of a zero value one that would be seen where it is read.
func setMark(v reflect.Value) {
	switch v.Kind() {
	case reflect.Bool:
		v.SetBool(true)
	case reflect.Int, reflect.Int64:
		v.SetInt(1)
	case reflect.Uint64:
		v.SetUint(0xdeadbeef)
	case reflect.String:
		v.SetString("mark")
	case reflect.Slice:
		v.Set(reflect.MakeSlice(v.Type(), 1, 1))
	}
	for i := range size(v) {
		setMark(part(v, i))
	}
}

// one gives a copy in which lists that are alike are one list; seen holds those that stand already.
func one(v reflect.Value, seen map[string]reflect.Value) reflect.Value {
	key := v.Type().String() + text(v)
	if old, ok := seen[key]; ok && v.Kind() == reflect.Slice {
		return old
	}
	out := fresh(v)
	seen[key] = out
	for i := range size(v) {
		part(out, i).Set(one(part(v, i), seen))
	}
	return out
}

// loose gives a copy in other forms: that tells the same numbers and vectors, with nil for some of the lists without elements and the other way round.
func loose(v reflect.Value, r *rand.Rand) reflect.Value {
	switch a := v.Interface().(type) {
	case api.Int:
		return reflect.ValueOf(tell.LooseInt(a, r.Intn))
	case api.Rat:
		return reflect.ValueOf(tell.LooseRat(a, r.Intn))
	case []uint64:
		return reflect.ValueOf(tell.LooseWords(a, r.Intn))
	case []api.Term:
		return reflect.ValueOf(tell.LooseVec(a, r.Intn))
	case api.Problem, api.LP, api.Cert: // their numbers must be in their one form; those of anyProblem needn't
		return parted(v, r, parts)
	}
	return parted(v, r, loose)
}

// parted gives a copy of whose parts others are made; of a list without elements perhaps nil, or the other way round.
func parted(v reflect.Value, r *rand.Rand, other func(v reflect.Value, r *rand.Rand) reflect.Value) reflect.Value {
	out := fresh(v)
	if v.Kind() == reflect.Slice && v.Len() == 0 && r.Intn(2) == 0 {
		out.SetZero()
	}
	for i := range size(v) {
		part(out, i).Set(other(part(v, i), r))
	}
	return out
}

// parts gives a copy that has nil for some of the lists without elements, and the other way round, and is else the same.
func parts(v reflect.Value, r *rand.Rand) reflect.Value { return parted(v, r, parts) }

// text tells a value; a nil list as one without elements.
func text(v reflect.Value) string { return string(appendText(nil, v)) }

// appendText writes it behind what stands already.
func appendText(out []byte, v reflect.Value) []byte {
	switch v.Kind() {
	case reflect.Slice, reflect.Struct:
		out = append(out, '(')
		for i := range size(v) {
			out = append(appendText(out, part(v, i)), ' ')
		}
		return append(out, ')')
	case reflect.Int, reflect.Int64:
		return strconv.AppendInt(out, v.Int(), 10)
	case reflect.Uint64:
		return strconv.AppendUint(out, v.Uint(), 16)
	}
	return fmt.Appendf(out, "%#v", v.Interface())
}

// texts tells values.
func texts(list []reflect.Value) string {
	var words []string
	for _, v := range list {
		words = append(words, text(v))
	}
	return strings.Join(words, ", ")
}

// empty tells whether a value is zero; a list, whether it has no elements.
func empty(v reflect.Value) bool {
	if v.Kind() != reflect.Struct {
		return v.Kind() == reflect.Slice && v.Len() == 0 || v.IsZero()
	}
	for i := range size(v) {
		if !empty(part(v, i)) {
			return false
		}
	}
	return true
}

// same tells whether two copies are alike, the spare room of their lists too.
func same(a, b reflect.Value) bool {
	if a.Kind() == reflect.Slice {
		if a.Len() != b.Len() || a.Cap() != b.Cap() {
			return false
		}
		a, b = whole(a), whole(b)
	}
	if a.Kind() != reflect.Slice && a.Kind() != reflect.Struct {
		return a.Equal(b)
	}
	for i := range size(a) {
		if !same(part(a, i), part(b, i)) {
			return false
		}
	}
	return true
}

// wipe writes over all that a value's lists hold.
func wipe(v reflect.Value) {
	for i := range size(v) {
		wipe(part(v, i))
	}
	if v.Kind() == reflect.Slice {
		whole(v).Clear()
	}
}

// span is where a list lies, its spare room too.
type span struct{ from, to uintptr }

// appendSpans adds where a value's lists lie, those of their spare room too.
func appendSpans(out []span, v reflect.Value) []span {
	if v.Kind() == reflect.Slice && v.Cap() > 0 {
		v = whole(v)
		out = append(out, span{v.Pointer(), v.Pointer() + uintptr(v.Cap())*v.Type().Elem().Size()})
	}
	for i := range size(v) {
		out = appendSpans(out, part(v, i))
	}
	return out
}

// apart tells whether no two lists in these values share memory.
func apart(list []reflect.Value) bool {
	var all []span
	for _, v := range list {
		all = appendSpans(all, v)
	}
	slices.SortFunc(all, func(a, b span) int { return cmp.Compare(a.from, b.from) })
	for i := range all {
		if i > 0 && all[i-1].to > all[i].from {
			return false
		}
	}
	return true
}
