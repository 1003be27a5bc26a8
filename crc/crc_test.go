package crc_test

import (
	"bytes"
	"hash/crc32"
	"testing"

	"haymow/api"
	"haymow/crc"
)

const (
	maxInt = int(^uint(0) >> 1)
	minInt = -maxInt - 1

	room = api.Block - 4 // bytes of a sealed block before its checksum
)

// steps does the chapter's steps one by one.
func steps(word uint32, n int) uint32 {
	for range n {
		out := word & 1
		word >>= 1
		if out == 1 {
			word ^= 0x82f63b78
		}
	}
	return word
}

// plainSum is the checksum as the chapter's words say it, bit by bit.
func plainSum(b []byte) uint32 {
	word := uint32(0xffffffff)
	for _, c := range b {
		word = steps(word^uint32(c), 8)
	}
	return ^word
}

// sample returns n bytes that differ from place to place, the same ones in every run.
func sample(n int) []byte {
	b, word := make([]byte, n), uint32(n)+1
	for i := range b {
		word = word*1664525 + 1013904223
		b[i] = byte(word >> 24)
	}
	return b
}

func counting(from, step int) []byte {
	b := make([]byte, 32)
	for i := range b {
		b[i] = byte(from + i*step)
	}
	return b
}

func sealed(t *testing.T, b []byte) []byte {
	t.Helper()
	block, e := crc.Seal(b)
	if e != api.OK || len(block) != api.Block {
		t.Fatalf("Seal of %d bytes: %d bytes, error %d", len(b), len(block), e)
	}
	return block
}

// lowestFirst returns b followed by its checksum, as the chapter orders its bytes.
func lowestFirst(b []byte) []byte {
	s := plainSum(b)
	return append(bytes.Clone(b), byte(s), byte(s>>8), byte(s>>16), byte(s>>24))
}

func TestP2_1KnownSums(t *testing.T) {
	command := make([]byte, 48)
	for i, c := range map[int]byte{0: 0x01, 1: 0xc0, 16: 0x14, 22: 0x04, 27: 0x14, 31: 0x18, 32: 0x28, 40: 0x02} {
		command[i] = c
	}
	for _, c := range []struct {
		b    []byte
		want uint32
	}{
		{nil, 0},
		{[]byte{}, 0},
		{[]byte("123456789"), 0xe3069283},
		{[]byte("a"), 0xc1d04330},
		{make([]byte, 32), 0x8a9136aa}, // this one and those that follow are of the specification of iSCSI
		{bytes.Repeat([]byte{255}, 32), 0x62a8ab43},
		{counting(0, 1), 0x46dd794e},
		{counting(31, -1), 0x113fdb5c},
		{command, 0xd9963a56},
	} {
		if got := crc.Sum(c.b); got != c.want {
			t.Errorf("Sum(% x): %08x, want %08x", c.b, got, c.want)
		}
	}
}

func TestP2_1SumOfNothing(t *testing.T) {
	if got := crc.Sum(); got != 0 {
		t.Errorf("Sum of no part: %08x", got)
	}
	if got := crc.Sum(nil, []byte{}, nil); got != 0 {
		t.Errorf("Sum of empty parts: %08x", got)
	}
}

func TestP2_1EachByte(t *testing.T) {
	for c := range 256 {
		for n := 1; n <= 3; n++ {
			b := bytes.Repeat([]byte{byte(c)}, n)
			if got, want := crc.Sum(b), plainSum(b); got != want {
				t.Errorf("Sum(% x): %08x, want %08x", b, got, want)
			}
		}
	}
}

func TestP2_1ManyLengths(t *testing.T) {
	table := crc32.MakeTable(crc32.Castagnoli)
	for _, n := range []int{1, 2, 3, 4, 5, 7, 8, 9, 63, 64, 123, 124, 125, 127, 128, 129, 255, 256, 257, 5000, 1<<16 + 1} {
		b := sample(n)
		if got, want := crc.Sum(b), plainSum(b); got != want || got != crc32.Checksum(b, table) {
			t.Errorf("Sum of %d bytes: %08x, want %08x", n, got, want)
		}
	}
}

func TestP2_1Half(t *testing.T) {
	for n := range 16 {
		if got, want := crc.Half(n), steps(uint32(n), 4); got != want {
			t.Errorf("Half(%d): %08x, want %08x", n, got, want)
		}
	}
	if got := crc.Half(1); got != 0x105ec76f {
		t.Errorf("Half(1): %08x", got)
	}
}

// Some of these would be 0 to 15, if only their lowest bits were looked at.
func TestP2_1HalfOfOthers(t *testing.T) {
	for _, n := range []int{-1, -2, -15, -16, -255, 16, 17, 31, 255, 257, 1<<16 + 1, 1<<31 - 1, minInt, minInt + 1, maxInt} {
		if got := crc.Half(n); got != 0 {
			t.Errorf("Half(%d): %08x, want 0", n, got)
		}
	}
	beyond := 1
	for range 2 {
		beyond *= 1 << 16
		if beyond != 0 && crc.Half(beyond+1) != 0 {
			t.Errorf("Half(%d): %08x, want 0", beyond+1, crc.Half(beyond+1))
		}
	}
}

func TestP2_2Seal(t *testing.T) {
	for n := 0; n <= room; n++ {
		b := sample(n)
		want := lowestFirst(append(bytes.Clone(b), make([]byte, room-n)...))
		if got := sealed(t, b); !bytes.Equal(got, want) {
			t.Errorf("Seal of %d bytes: % x, want % x", n, got, want)
		}
		if !crc.Held(want) {
			t.Errorf("a sealed block of %d bytes is not held", n)
		}
	}
	if got := sealed(t, nil); !bytes.Equal(got, sealed(t, make([]byte, room))) {
		t.Errorf("Seal of nothing: % x", got)
	}
}

func TestP2_2SealTooMuch(t *testing.T) {
	for _, n := range []int{room + 1, room + 2, api.Block - 1, api.Block, api.Block + 1, 2 * api.Block, 1 << 16} {
		if got, e := crc.Seal(make([]byte, n)); e != api.ErrFull || len(got) != 0 {
			t.Errorf("Seal of %d bytes: %d bytes, error %d; want ErrFull", n, len(got), e)
		}
	}
}

// What lies behind the end of b in the caller's memory is not part of b.
func TestP2_2SealEndsWithB(t *testing.T) {
	longer := bytes.Repeat([]byte{9}, 2*api.Block)
	want := lowestFirst(append([]byte{9, 9}, make([]byte, room-2)...))
	if got := sealed(t, longer[:2]); !bytes.Equal(got, want) {
		t.Errorf("Seal of a piece: % x", got)
	}
}

func TestP2_2HeldOtherLengths(t *testing.T) {
	block := sealed(t, sample(room))
	if crc.Held(nil) || crc.Held([]byte{}) {
		t.Error("nothing is held")
	}
	for n := range api.Block {
		if crc.Held(block[:n]) {
			t.Errorf("the first %d bytes are held", n)
		}
	}
	for _, more := range [][]byte{{0}, {0, 0, 0, 0}, make([]byte, api.Block), block} {
		if crc.Held(append(bytes.Clone(block), more...)) {
			t.Errorf("a sealed block and %d bytes are held", len(more))
		}
	}
	for _, n := range []int{0, 1, room - 1, room + 1, 2*api.Block - 4} {
		if crc.Held(lowestFirst(sample(n))) {
			t.Errorf("%d bytes that are no block, their checksum at the end, are held", n+4)
		}
	}
}

func TestP2_2HeldOtherContents(t *testing.T) {
	if crc.Held(make([]byte, api.Block)) || crc.Held(bytes.Repeat([]byte{255}, api.Block)) {
		t.Error("a block of one byte again and again is held")
	}
	block := sealed(t, sample(room))
	turned, inverted, zeroed := bytes.Clone(block), bytes.Clone(block), bytes.Clone(block)
	for i := range 4 {
		turned[room+i] = block[api.Block-1-i]
		inverted[room+i] = ^block[room+i]
		zeroed[room+i] = 0
	}
	front := append(bytes.Clone(block[room:]), block[:room]...)
	for i, b := range [][]byte{turned, inverted, zeroed, front} {
		if crc.Held(b) {
			t.Errorf("%d: held, though its checksum is not at its end, the lowest byte first", i)
		}
	}
}

func TestP2_3Parts(t *testing.T) {
	b := sample(40)
	want := plainSum(b)
	for i := 0; i <= len(b); i++ {
		for j := i; j <= len(b); j++ {
			if got := crc.Sum(b[:i], b[i:j], b[j:]); got != want {
				t.Fatalf("Sum of parts of %d, %d and %d bytes: %08x, want %08x", i, j-i, len(b)-j, got, want)
			}
		}
	}
	var single [][]byte
	for i := range b {
		single = append(single, b[i:i+1], nil)
	}
	if got := crc.Sum(single...); got != want {
		t.Errorf("Sum of single bytes: %08x, want %08x", got, want)
	}
}

// changed returns b with the bits from at on changed where the pattern has a 1; its lowest bit is the first one.
func changed(b []byte, at int, pattern uint32) []byte {
	c := bytes.Clone(b)
	for i := range 32 {
		if pattern>>i&1 == 1 {
			c[(at+i)/8] ^= 1 << ((at + i) % 8)
		}
	}
	return c
}

func wantBroken(t *testing.T, block []byte, at int, pattern uint32) {
	t.Helper()
	if crc.Held(changed(block, at, pattern)) {
		t.Fatalf("held, though the bits from %d on are changed by %08x", at, pattern)
	}
}

func TestP2_3ShortChanges(t *testing.T) {
	const width = 5
	for _, b := range [][]byte{nil, sample(room), []byte("abc")} {
		block := sealed(t, b)
		for at := range 8*api.Block - width + 1 {
			for pattern := uint32(1); pattern < 1<<width; pattern += 2 {
				wantBroken(t, block, at, pattern)
			}
		}
		for at := 8*api.Block - width + 1; at < 8*api.Block; at++ {
			wantBroken(t, block, at, 1)
		}
	}
}

// The changes reach every place, and the checksum itself; among them are all bits, and the polynomial's own ones.
func TestP2_3LongChanges(t *testing.T) {
	block := sealed(t, sample(room))
	word := uint32(1)
	for at := range 8*api.Block - 31 {
		for _, pattern := range []uint32{0xffffffff, 0x80000001, 0x82f63b78 | 1, 0x05ec76f1, 0x1edc6f41, 0x55555555} {
			wantBroken(t, block, at, pattern)
		}
		for range 20 {
			word = word*1664525 + 1013904223
			wantBroken(t, block, at, word|1)
		}
	}
}

// Rule R3: arguments stay as they are, and results share no memory with them, or with each other.
func TestArgumentsAreKeptApart(t *testing.T) {
	b := sample(room)
	block, again := sealed(t, b), sealed(t, b)
	crc.Sum(b, b[:3])
	crc.Held(block)
	if !bytes.Equal(block, again) {
		t.Error("Held has changed its argument")
	}
	clear(block)
	if !bytes.Equal(b, sample(room)) || !crc.Held(again) {
		t.Errorf("Seal: % x, % x", b, again)
	}
}
