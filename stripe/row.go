package stripe

import (
	"iter"
	"slices"

	"braidwork/api"
	"braidwork/mirror"
)

const least = 2 // how few extents may be

// row is the stripe t of some extents.
type row struct {
	ext []api.Extent
	t   int
}

// rowOf is a stripe, if there is one.
func rowOf(ext []api.Extent, t int) (row, api.Errno) {
	if len(ext) < least {
		return row{}, api.ErrArg
	}
	if t < 0 || t >= api.Run {
		return row{}, api.ErrRange
	}
	return row{ext, t}, api.OK
}

// rowOfSlot is the stripe of a slot, and the extent that the slot is on, if there is one.
func rowOfSlot(ext []api.Extent, slot int) (row, int, api.Errno) {
	if len(ext) < least {
		return row{}, 0, api.ErrArg
	}
	if slot < 0 || slot >= Slots(len(ext)) {
		return row{}, 0, api.ErrRange
	}
	data := len(ext) - 1
	r, k := row{ext, slot / data}, slot%data
	if k >= r.parity() {
		k++ // the parity's extent has none of the stripe's slots
	}
	return r, k, api.OK
}

// parity is the extent that the stripe's parity is on.
func (r row) parity() int { return len(r.ext) - 1 - r.t%len(r.ext) }

// on is the place of the stripe on the extent k.
func (r row) on(k int) api.Place {
	p, _ := mirror.Home(r.ext[k], r.t)
	return p
}

// but goes through the places of the stripe on all extents but these, in order.
func (r row) but(these ...int) iter.Seq[api.Place] {
	return func(yield func(api.Place) bool) {
		for k := range len(r.ext) {
			if !slices.Contains(these, k) && !yield(r.on(k)) {
				return
			}
		}
	}
}

// mates goes through the stripe's data but that on the extent k, in order, and at last to its parity.
func (r row) mates(k int) iter.Seq[api.Place] {
	return func(yield func(api.Place) bool) {
		for p := range r.but(k, r.parity()) {
			if !yield(p) {
				return
			}
		}
		yield(r.on(r.parity()))
	}
}
