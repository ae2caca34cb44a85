package recency

// chain is items that hang one on the other, from the oldest to the newest. It is a ring: its knot, which has no item, hangs between the newest and the oldest, so that each item has somebody on both sides.
type chain[T any] struct{ knot *link[T] }

// link is an item's place in a chain.
type link[T any] struct {
	item         T
	older, newer *link[T]
}

// newChain is one without items.
func newChain[T any]() chain[T] {
	knot := &link[T]{}
	knot.older, knot.newer = knot, knot
	return chain[T]{knot}
}

// hang hangs an item on as the newest, and tells where it hangs.
func (c chain[T]) hang(item T) *link[T] {
	l := &link[T]{item: item, older: c.knot.older, newer: c.knot}
	l.older.newer, l.newer.older = l, l
	return l
}

// cut takes a link out of its chain; what hung on both sides of it hangs together.
func (l *link[T]) cut() {
	l.older.newer, l.newer.older = l.newer, l.older
}

// oldest is the n oldest items, the oldest first, or all, if there are fewer.
func (c chain[T]) oldest(n int) []T {
	var items []T
	for l := c.knot.newer; l != c.knot && len(items) < n; l = l.newer {
		items = append(items, l.item)
	}
	return items
}
