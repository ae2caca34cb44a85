// Package pack is layer 1: numbers in bytes, bytes in sectors; see shared/doc/01-pack.md.
package pack

import (
	"bytes"

	"braidwork/api"
)

const (
	widest  = 6     // so that every number that has room in its bytes is an int, too
	counter = 2     // how many bytes of a row say how many numbers there are
	longest = 65535 // what these can say at most
)

// Put is b, and behind it v in width bytes, the highest first (A1).
func Put(b []byte, v, width int) []byte {
	if !fits(v, width) {
		return bytes.Clone(b)
	}
	return grow(elsewhere(b), v, width)
}

// Get is the number that b begins with (A1).
func Get(b []byte, width int) (int, bool) {
	if !wide(width) || len(b) < width {
		return 0, false
	}
	return value(b[:width]), true
}

// PutRow is b, and behind it how many numbers l has, and each (A2).
func PutRow(b []byte, l []int, width int) []byte {
	if !rowFits(l, width) {
		return bytes.Clone(b)
	}
	row := grow(elsewhere(b), len(l), counter)
	for _, v := range l {
		row = grow(row, v, width)
	}
	return row
}

// Row is the row that b begins with, and how many bytes it takes (A2).
func Row(b []byte, width int) ([]int, int, bool) {
	n, ok := Get(b, counter)
	if !ok || !wide(width) || len(b)-counter < n*width {
		return nil, 0, false
	}
	l := make([]int, n)
	for i := range l {
		at := counter + i*width
		l[i] = value(b[at : at+width])
	}
	return l, counter + n*width, true
}

// Sectors is b, cut into sectors, the last one filled up with noughts (A3).
func Sectors(b []byte) []api.Sector {
	var l []api.Sector
	for len(b) > 0 {
		var s api.Sector
		b = b[copy(s[:], b):]
		l = append(l, s)
	}
	return l
}

// Bytes is all bytes of l, in order (A3).
func Bytes(l []api.Sector) []byte {
	b := make([]byte, 0, len(l)*api.Size)
	for _, s := range l {
		b = append(b, s[:]...)
	}
	return b
}

// wide tells whether a number may have so many bytes.
func wide(width int) bool { return width >= 1 && width <= widest }

// fits tells whether v has room in width bytes.
func fits(v, width int) bool {
	return wide(width) && v >= 0 && uint64(v)>>(8*width) == 0
}

// rowFits tells whether l is a row of numbers of width bytes; a row without numbers needs a width, too.
func rowFits(l []int, width int) bool {
	if !wide(width) || len(l) > longest {
		return false
	}
	for _, v := range l {
		if !fits(v, width) {
			return false
		}
	}
	return true
}

// elsewhere is b without the room behind it, which is its owner's: whatever is appended makes new memory of it.
func elsewhere(b []byte) []byte { return b[:len(b):len(b)] }

// grow appends v, which fits.
func grow(b []byte, v, width int) []byte {
	for i := width - 1; i >= 0; i-- {
		b = append(b, byte(v>>(8*i)))
	}
	return b
}

// value is the number whose bytes these are, all of them.
func value(b []byte) int {
	v := 0
	for _, x := range b {
		v = v<<8 | int(x)
	}
	return v
}
