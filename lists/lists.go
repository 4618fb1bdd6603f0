// Package lists reads lists as if they went on without an end.
package lists

// At gives what stands at the place i of a list; zero, if i is ahead of the list or behind its end.
func At[T any](list []T, i int) T {
	if i < 0 || i >= len(list) {
		var zero T
		return zero
	}
	return list[i]
}
