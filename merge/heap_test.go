package merge

import (
	"slices"
	"testing"
)

// drained puts things into a heap, and takes them all.
func drained[T any](l []T, ahead func(a, b T) bool) []T {
	h := heap[T]{ahead: ahead}
	for _, x := range l {
		h.push(x)
	}
	var out []T
	for !h.empty() {
		out = append(out, h.pop())
	}
	return out
}

func less(a, b int) bool { return a < b }

// orders goes through all orders of a list.
func orders[T any](l []T, yield func([]T)) {
	if len(l) == 0 {
		yield(nil)
		return
	}
	for i := range l {
		others := append(slices.Clone(l[:i]), l[i+1:]...)
		orders(others, func(o []T) { yield(append([]T{l[i]}, o...)) })
	}
}

func TestHeapInAllOrders(t *testing.T) {
	for _, l := range [][]int{nil, {1}, {1, 2}, {1, 1, 2}, {1, 2, 3, 4, 5, 6, 7}, {1, 1, 2, 2, 2, 3, 3}} {
		orders(l, func(o []int) {
			if got := drained(o, less); !slices.Equal(got, l) {
				t.Errorf("%v: %v", o, got)
			}
		})
	}
}

func TestHeapOfTexts(t *testing.T) {
	got := drained([]string{"b", "", "c", "aa"}, func(a, b string) bool { return a > b })
	if !slices.Equal(got, []string{"c", "b", "aa", ""}) {
		t.Errorf("%q", got)
	}
}

func TestHeapBetweenPushes(t *testing.T) {
	for seed := range 50 {
		r := random(seed)
		h := heap[int]{ahead: less}
		var in []int
		for range 300 {
			if len(in) > 0 && r.below(5) < 2 {
				want := slices.Min(in)
				if got := h.pop(); got != want {
					t.Fatalf("%d, not %d", got, want)
				}
				i := slices.Index(in, want)
				in = slices.Delete(in, i, i+1)
			} else {
				x := r.below(40)
				h.push(x)
				in = append(in, x)
			}
			if h.empty() != (len(in) == 0) {
				t.Fatal(len(in))
			}
		}
	}
}
