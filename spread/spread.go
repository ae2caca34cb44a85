// Package spread lays the same sectors down on several members: journal and checkpoints are written so, one way for both.
package spread

import (
	"braidwork/api"
	"braidwork/disk"
)

// Write writes l to each live member, from the sector at on, and flushes it, one place of live behind the other. A member that is lost is passed over; ErrFailed, if all were, and ErrDown of any other error, at once.
func Write(b *disk.Bank, live []int, at int, l []api.Sector) api.Errno {
	all := api.ErrFailed
	for _, d := range live {
		e := writeOne(b, d, at, l)
		if Lost(e) {
			continue
		}
		if e != api.OK {
			return api.ErrDown
		}
		all = api.OK
	}
	return all
}

// Lost tells whether a member that answers e is passed over.
func Lost(e api.Errno) bool { return e == api.ErrDead || e == api.ErrNone }

// writeOne writes l to one member, and flushes it: the first error.
func writeOne(b *disk.Bank, d, at int, l []api.Sector) api.Errno {
	for i, s := range l {
		if e := b.Write(api.Place{Disk: d, At: at + i}, s); e != api.OK {
			return e
		}
	}
	return b.Flush(d)
}
