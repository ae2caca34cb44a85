package disk

import (
	"maps"

	"braidwork/api"
)

// disk is the sectors of one disk.
type disk struct {
	size    int
	dead    bool
	flushed map[int]api.Sector // what is not here is zero: most sectors of a disk are never written
	loose   map[int]newer
}

// newer is a content that is not flushed yet, and the write at which its sector became loose.
type newer struct {
	s     api.Sector
	since int
}

// blank is a disk all of whose sectors are zero.
func blank(size int) disk {
	return disk{size: size, flushed: map[int]api.Sector{}, loose: map[int]newer{}}
}

// has tells whether there is such a sector.
func (d *disk) has(at int) bool { return at >= 0 && at < d.size }

// newest is what a sector holds, flushed or not.
func (d *disk) newest(at int) api.Sector {
	if l, is := d.loose[at]; is {
		return l.s
	}
	return d.flushed[at]
}

// write makes s the newest content; a sector that is loose already stays where it is in the order.
func (d *disk) write(at int, s api.Sector, now int) {
	if l, is := d.loose[at]; is {
		now = l.since
	}
	d.loose[at] = newer{s, now}
}

// keep flushes what is newest of a sector.
func (d *disk) keep(at int) {
	s := d.newest(at)
	if s == (api.Sector{}) {
		delete(d.flushed, at)
		return
	}
	d.flushed[at] = s
}

// lose lets go what is loose.
func (d *disk) lose() { clear(d.loose) }

// flush flushes all that is loose.
func (d *disk) flush() {
	for at := range d.loose {
		d.keep(at)
	}
	d.lose()
}

// fail lets the disk die; nobody hears of its sectors again.
func (d *disk) fail() {
	d.dead = true
	d.flushed, d.loose = nil, nil
}

// twin is a disk of its own that is as this one.
func (d *disk) twin() disk {
	c := *d
	c.flushed, c.loose = maps.Clone(d.flushed), maps.Clone(d.loose)
	return c
}
