package pack_test

import (
	"bytes"
	"slices"
	"testing"

	"haymow/api"
	"haymow/pack"
)

const (
	maxInt = int(^uint(0) >> 1)
	minInt = -maxInt - 1
)

// badWidths are just outside 1 to 8, and as far outside as an int gets.
var badWidths = []int{0, -1, -8, minInt, 9, 64, 257, maxInt}

// greatest is the greatest number of a width, found without a shift by 64 bits.
func greatest(w int) uint64 {
	var v uint64
	for range w {
		v = v*256 + 255
	}
	return v
}

// samples are numbers of a width: both limits, and each byte told apart from the others.
func samples(w int) []uint64 {
	l := []uint64{0, 1, greatest(w) - 1, greatest(w), 0x0102030405060708 & greatest(w)}
	for i := range 8 * w {
		l = append(l, 1<<i)
	}
	return l
}

func packed(t *testing.T, l ...api.Num) []byte {
	t.Helper()
	b, e := pack.Pack(l...)
	if e != api.OK {
		t.Fatalf("Pack(%v): error %d", l, e)
	}
	return b
}

func wantPack(t *testing.T, l []api.Num, want []byte, wantErr api.Errno) {
	t.Helper()
	b, e := pack.Pack(l...)
	if e != wantErr || !bytes.Equal(b, want) {
		t.Errorf("Pack(%v): % x, error %d; want % x, error %d", l, b, e, want, wantErr)
	}
}

func wantUnpack(t *testing.T, b []byte, widths []int, want []uint64, wantErr api.Errno) {
	t.Helper()
	l, e := pack.Unpack(b, widths...)
	if e != wantErr || !slices.Equal(l, want) {
		t.Errorf("Unpack(% x; %v): %v, error %d; want %v, error %d", b, widths, l, e, want, wantErr)
	}
}

func TestP1_1Records(t *testing.T) {
	wantPack(t, nil, nil, api.OK)
	wantPack(t, []api.Num{{Width: 2, V: 300}, {Width: 1, V: 7}}, []byte{1, 44, 7}, api.OK)
	wantPack(t, []api.Num{{Width: 1, V: 7}, {Width: 2, V: 300}}, []byte{7, 1, 44}, api.OK)
	wantPack(t, []api.Num{{Width: 3, V: 1}}, []byte{0, 0, 1}, api.OK)
	wantPack(t, []api.Num{{Width: 8, V: 0x0102030405060708}}, []byte{1, 2, 3, 4, 5, 6, 7, 8}, api.OK)
	for w := 1; w <= 8; w++ {
		wantPack(t, []api.Num{{Width: w, V: 0}}, make([]byte, w), api.OK)
		wantPack(t, []api.Num{{Width: w, V: greatest(w)}}, bytes.Repeat([]byte{255}, w), api.OK)
	}
}

func TestP1_1WrongWidths(t *testing.T) {
	for _, w := range badWidths {
		for _, v := range []uint64{0, 1, 256, greatest(8)} {
			wantPack(t, []api.Num{{Width: w, V: v}}, nil, api.ErrArg)
			wantPack(t, []api.Num{{Width: 1, V: 5}, {Width: w, V: v}, {Width: 1, V: 5}}, nil, api.ErrArg)
		}
	}
}

func TestP1_1TooGreat(t *testing.T) {
	wantPack(t, []api.Num{{Width: 1, V: 256}}, nil, api.ErrOver)
	for w := 1; w < 8; w++ {
		for _, v := range []uint64{greatest(w) + 1, greatest(w) + 2, 1 << 63, greatest(8)} {
			wantPack(t, []api.Num{{Width: w, V: v}}, nil, api.ErrOver)
			wantPack(t, []api.Num{{Width: 2, V: 5}, {Width: w, V: v}, {Width: 2, V: 5}}, nil, api.ErrOver)
		}
	}
}

// The first number that is wrong decides, not the first kind of error.
func TestP1_1Order(t *testing.T) {
	wantPack(t, []api.Num{{Width: 1, V: 256}, {Width: 9, V: 0}}, nil, api.ErrOver)
	wantPack(t, []api.Num{{Width: 9, V: 0}, {Width: 1, V: 256}}, nil, api.ErrArg)
	wantPack(t, []api.Num{{Width: 1, V: 255}, {Width: 1, V: 256}, {Width: 0, V: 0}}, nil, api.ErrOver)
	wantPack(t, []api.Num{{Width: 1, V: 255}, {Width: 0, V: 0}, {Width: 1, V: 256}}, nil, api.ErrArg)
}

func TestP1_2Numbers(t *testing.T) {
	wantUnpack(t, []byte{1, 44, 7, 9}, []int{2, 1}, []uint64{300, 7}, api.OK)
	wantUnpack(t, []byte{1, 44, 7}, []int{2, 1}, []uint64{300, 7}, api.OK)
	wantUnpack(t, []byte{1, 44, 7}, []int{1, 2}, []uint64{1, 44*256 + 7}, api.OK)
	wantUnpack(t, []byte{1, 44, 7}, nil, nil, api.OK)
	wantUnpack(t, nil, nil, nil, api.OK)
	whole := []byte{1, 2, 3, 4, 5, 6, 7, 8, 9}
	for w := 1; w <= 8; w++ {
		wantUnpack(t, whole, []int{w}, []uint64{0x0102030405060708 >> (8 * (8 - w))}, api.OK)
		wantUnpack(t, bytes.Repeat([]byte{255}, w), []int{w}, []uint64{greatest(w)}, api.OK)
		wantUnpack(t, make([]byte, w), []int{w}, []uint64{0}, api.OK)
	}
}

func TestP1_2Short(t *testing.T) {
	wantUnpack(t, []byte{1}, []int{2}, nil, api.ErrShort)
	wantUnpack(t, nil, []int{1}, nil, api.ErrShort)
	wantUnpack(t, []byte{1, 2, 3, 4}, []int{1, 2, 2}, nil, api.ErrShort)
	for w := 1; w <= 8; w++ {
		wantUnpack(t, make([]byte, w-1), []int{w}, nil, api.ErrShort)
		wantUnpack(t, make([]byte, 3+w-1), []int{3, w}, nil, api.ErrShort)
	}
}

// A width that is wrong counts before too few bytes, wherever it stands.
func TestP1_2WrongWidths(t *testing.T) {
	for _, w := range badWidths {
		wantUnpack(t, make([]byte, 300), []int{w}, nil, api.ErrArg)
		wantUnpack(t, make([]byte, 300), []int{1, w, 1}, nil, api.ErrArg)
		wantUnpack(t, nil, []int{w}, nil, api.ErrArg)
		wantUnpack(t, []byte{1}, []int{2, w}, nil, api.ErrArg)
		wantUnpack(t, []byte{1}, []int{w, 2}, nil, api.ErrArg)
	}
	wantUnpack(t, make([]byte, 300), []int{maxInt, maxInt, 2}, nil, api.ErrArg)
}

func TestP1_3Fill(t *testing.T) {
	for n := 0; n <= api.Block; n++ {
		b := bytes.Repeat([]byte{7}, n)
		want := append(bytes.Repeat([]byte{7}, n), make([]byte, api.Block-n)...)
		if got, e := pack.Fill(b); e != api.OK || !bytes.Equal(got, want) {
			t.Errorf("Fill of %d bytes: % x, error %d", n, got, e)
		}
	}
	for _, n := range []int{api.Block + 1, api.Block + 2, 2 * api.Block, 1 << 16} {
		if got, e := pack.Fill(make([]byte, n)); e != api.ErrFull || len(got) != 0 {
			t.Errorf("Fill of %d bytes: %d bytes, error %d; want ErrFull", n, len(got), e)
		}
	}
}

// What lies behind the end of b in the caller's memory is not part of b.
func TestP1_3FillEndsWithB(t *testing.T) {
	longer := bytes.Repeat([]byte{9}, 2*api.Block)
	got, e := pack.Fill(longer[:2])
	if e != api.OK || !bytes.Equal(got, append([]byte{9, 9}, make([]byte, api.Block-2)...)) {
		t.Errorf("Fill of a piece: % x, error %d", got, e)
	}
}

func TestP1_3Clear(t *testing.T) {
	for i, c := range []struct {
		b    []byte
		from int
		want bool
	}{
		{nil, 0, true},
		{nil, 1, false},
		{nil, -1, false},
		{[]byte{0}, 0, true},
		{[]byte{0}, 1, true},
		{[]byte{0}, 2, false},
		{[]byte{0}, -1, false},
		{[]byte{1}, 0, false},
		{[]byte{1}, 1, true},
		{[]byte{1, 0, 0}, 0, false},
		{[]byte{1, 0, 0}, 1, true},
		{[]byte{0, 0, 255}, 0, false},
		{[]byte{0, 0, 255}, 2, false},
		{[]byte{0, 0, 255}, 3, true},
		{[]byte{0, 128, 0}, 1, false},
		{[]byte{0, 128, 0}, 2, true},
		{make([]byte, api.Block), minInt, false},
		{make([]byte, api.Block), maxInt, false},
		{make([]byte, api.Block), api.Block + 1, false},
		{make([]byte, api.Block), api.Block, true},
		{make([]byte, 1000), 0, true},
	} {
		if got := pack.Clear(c.b, c.from); got != c.want {
			t.Errorf("%d: Clear(% x, %d): %t", i, c.b, c.from, got)
		}
	}
}

// A single byte that is not zero is found wherever it is, and only from places up to it.
func TestP1_3ClearFindsEachByte(t *testing.T) {
	for at := range api.Block {
		b := make([]byte, api.Block)
		b[at] = 1
		for from := 0; from <= api.Block; from++ {
			if got := pack.Clear(b, from); got != (from > at) {
				t.Fatalf("Clear from %d, with a 1 at %d: %t", from, at, got)
			}
		}
	}
}

func TestP1_4DecodedAsEncoded(t *testing.T) {
	for w := 1; w <= 8; w++ {
		for _, v := range samples(w) {
			for u := 1; u <= 8; u++ {
				record := packed(t, api.Num{Width: w, V: v}, api.Num{Width: u, V: greatest(u)})
				if len(record) != w+u {
					t.Fatalf("a record of widths %d and %d has %d bytes", w, u, len(record))
				}
				want := []uint64{v, greatest(u)}
				wantUnpack(t, record, []int{w, u}, want, api.OK)
				wantUnpack(t, append(record, 0), []int{w, u}, want, api.OK)
				wantUnpack(t, append(record, 255, 255, 255), []int{w, u}, want, api.OK)
			}
		}
	}
}

func TestP1_4LongRecord(t *testing.T) {
	var l []api.Num
	var widths []int
	var want []uint64
	for w := 1; w <= 8; w++ {
		for _, v := range samples(w) {
			l = append(l, api.Num{Width: w, V: v})
			widths = append(widths, w)
			want = append(want, v)
		}
	}
	wantUnpack(t, packed(t, l...), widths, want, api.OK)
}

func TestP1_4DifferentRecords(t *testing.T) {
	for w := 1; w <= 8; w++ {
		for _, a := range samples(w) {
			for _, b := range samples(w) {
				x := packed(t, api.Num{Width: w, V: a}, api.Num{Width: 1, V: 3})
				y := packed(t, api.Num{Width: w, V: b}, api.Num{Width: 1, V: 3})
				if bytes.Equal(x, y) != (a == b) {
					t.Fatalf("width %d, numbers %d and %d: % x and % x", w, a, b, x, y)
				}
			}
		}
	}
}

func TestP1_4AllOfTwoBytes(t *testing.T) {
	seen := map[string]bool{}
	for v := range 1 << 16 {
		b := packed(t, api.Num{Width: 2, V: uint64(v)})
		if seen[string(b)] {
			t.Fatalf("the record % x stands for several numbers", b)
		}
		seen[string(b)] = true
		wantUnpack(t, b, []int{2}, []uint64{uint64(v)}, api.OK)
	}
}

// Rule R3: arguments stay as they are, and results share no memory with them, or with each other.
func TestArgumentsAreKeptApart(t *testing.T) {
	nums, widths, b := []api.Num{{Width: 2, V: 300}, {Width: 1, V: 7}}, []int{2, 1}, []byte{1, 44, 7, 9}
	first, again := packed(t, nums...), packed(t, nums...)
	clear(first)
	if !bytes.Equal(again, []byte{1, 44, 7}) || !slices.Equal(nums, []api.Num{{Width: 2, V: 300}, {Width: 1, V: 7}}) {
		t.Errorf("Pack: % x, %v", again, nums)
	}
	l, _ := pack.Unpack(b, widths...)
	clear(l)
	if !bytes.Equal(b, []byte{1, 44, 7, 9}) || !slices.Equal(widths, []int{2, 1}) {
		t.Errorf("Unpack: % x, %v", b, widths)
	}
	whole := bytes.Repeat([]byte{5}, api.Block)
	filled, _ := pack.Fill(whole)
	clear(filled)
	pack.Clear(whole, 0)
	if !bytes.Equal(whole, bytes.Repeat([]byte{5}, api.Block)) {
		t.Errorf("Fill or Clear has changed its argument: % x", whole)
	}
}
