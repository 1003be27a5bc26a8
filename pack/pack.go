// Package pack is layer 1: see shared/doc/01-pack.md.
package pack

import (
	"haymow/api"
)

// maxWidth is the number of bytes of a uint64, beyond which nothing can be decoded.
const maxWidth = 8

// Pack returns the record of the numbers.
func Pack(l ...api.Num) ([]byte, api.Errno) {
	var record []byte
	for _, n := range l {
		if !isWidth(n.Width) {
			return nil, api.ErrArg
		}
		if !fits(n) {
			return nil, api.ErrOver
		}
		record = appendNum(record, n)
	}
	return record, api.OK
}

// Unpack returns the numbers of these widths with which b begins.
func Unpack(b []byte, widths ...int) ([]uint64, api.Errno) {
	total := 0
	for _, w := range widths {
		if !isWidth(w) {
			return nil, api.ErrArg
		}
		total += w
	}
	if len(b) < total {
		return nil, api.ErrShort
	}
	l := make([]uint64, 0, len(widths))
	for _, w := range widths {
		l = append(l, number(b[:w]))
		b = b[w:]
	}
	return l, api.OK
}

// Fill returns a block that begins with b, and has zeros after it.
func Fill(b []byte) ([]byte, api.Errno) {
	if len(b) > api.Block {
		return nil, api.ErrFull
	}
	block := make([]byte, api.Block)
	copy(block, b)
	return block, api.OK
}

// Clear reports whether from is a place in b, or its end, with nothing but zeros after it.
func Clear(b []byte, from int) bool {
	if from < 0 || from > len(b) {
		return false
	}
	for i := range len(b) - from {
		if b[from+i] != 0 {
			return false
		}
	}
	return true
}

func isWidth(w int) bool { return w >= 1 && w <= maxWidth }

// fits relies on Go's rule that a shift by all 64 bits leaves 0: with width 8 every V fits.
func fits(n api.Num) bool { return n.V>>(8*n.Width) == 0 }

func appendNum(record []byte, n api.Num) []byte {
	for i := range n.Width {
		record = append(record, byte(n.V>>(8*(n.Width-1-i))))
	}
	return record
}

func number(b []byte) uint64 {
	var v uint64
	for i := range len(b) {
		v = v<<8 | uint64(b[i])
	}
	return v
}
