package lists

import (
	"math"
	"testing"
)

func TestAt(t *testing.T) {
	for _, c := range []struct {
		list []int
		i    int
		want int
	}{
		{[]int{7, 8}, 0, 7}, {[]int{7, 8}, 1, 8}, {[]int{7, 8}, 2, 0}, {[]int{7, 8}, -1, 0},
		{[]int{7, 8, 9}[:2], 2, 0}, {nil, 0, 0}, {[]int{}, 0, 0},
		{[]int{7}, math.MaxInt, 0}, {[]int{7}, math.MinInt, 0},
	} {
		if got := At(c.list, c.i); got != c.want {
			t.Errorf("At(%v, %d) = %d", c.list, c.i, got)
		}
	}
	if got := At([]string{"a"}, 1); got != "" {
		t.Errorf("At of texts = %q", got)
	}
}
