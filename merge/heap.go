package merge

// heap holds things of which the first one is taken; each stands ahead of, or level with, the two below it, at twice its place plus one and plus two.
type heap[T any] struct {
	ahead func(a, b T) bool
	items []T
}

// push puts a thing in.
func (h *heap[T]) push(x T) {
	h.items = append(h.items, x)
	for i := len(h.items) - 1; i > 0; {
		above := (i - 1) / 2
		if !h.ahead(h.items[i], h.items[above]) {
			return
		}
		h.swap(i, above)
		i = above
	}
}

// pop takes the first thing; there must be one.
func (h *heap[T]) pop() T {
	first := h.items[0]
	last := len(h.items) - 1
	h.swap(0, last)
	h.items = h.items[:last]
	for i := 0; ; {
		best := h.best(i)
		if best == i {
			return first
		}
		h.swap(i, best)
		i = best
	}
}

// best tells which is ahead, of a place and the two below it.
func (h *heap[T]) best(i int) int {
	best := i
	for below := 2*i + 1; below <= 2*i+2 && below < len(h.items); below++ {
		if h.ahead(h.items[below], h.items[best]) {
			best = below
		}
	}
	return best
}

func (h *heap[T]) swap(i, j int) { h.items[i], h.items[j] = h.items[j], h.items[i] }

func (h *heap[T]) empty() bool { return len(h.items) == 0 }
