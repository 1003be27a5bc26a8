package imap_test

import (
	"bytes"
	"math/rand"
	"slices"
	"testing"

	"haymow/api"
	"haymow/imap"
)

const (
	maxInt = int(^uint(0) >> 1)
	minInt = -maxInt - 1
	max31  = 1<<31 - 1

	headSize = 5 // bytes of a block before its slots
	slotSize = 12
	used     = headSize + api.MapSlots*slotSize
)

// blockOf lays a block of a map out byte by byte, whatever its slots are.
func blockOf(m api.Imap, k int) []byte {
	b := []byte{0x69, 0x6d, 0x61, 0x70, byte(k)}
	for i := range api.MapSlots {
		s := m[10*k+i]
		b = append(b, byte(s.P.At>>24), byte(s.P.At>>16), byte(s.P.At>>8), byte(s.P.At),
			byte(s.P.Sum>>24), byte(s.P.Sum>>16), byte(s.P.Sum>>8), byte(s.P.Sum),
			byte(s.Ver>>24), byte(s.Ver>>16), byte(s.Ver>>8), byte(s.Ver))
	}
	return append(b, 0, 0, 0)
}

// changed returns a copy of a block with another byte at i.
func changed(b []byte, i int, c byte) []byte {
	b = bytes.Clone(b)
	b[i] = c
	return b
}

// example is a map in which all inodes exist, whose numbers have bytes that differ from slot to slot.
func example() api.Imap {
	var m api.Imap
	for ino := 1; ino <= api.MaxIno; ino++ {
		m[ino] = api.Slot{P: api.Ptr{At: 0x01020304 + ino*0x03020105, Sum: 0xfefdfcfb - uint32(ino)*0x05060708}, Ver: 0x11223344 + ino*0x02010307}
	}
	return m
}

// with returns a map with another slot.
func with(m api.Imap, ino int, s api.Slot) api.Imap {
	m[ino] = s
	return m
}

// without returns a map without the pointers of some inodes.
func without(m api.Imap, inos ...int) api.Imap {
	for _, ino := range inos {
		m[ino].P = api.Ptr{}
	}
	return m
}

// validPtrs: all limits of both numbers, with each other, and some between them.
func validPtrs() []api.Ptr {
	var l []api.Ptr
	for _, at := range []int{1, 2, 255, 256, 0x01020304, 1 << 24, max31 - 1, max31} {
		for _, sum := range []uint32{0, 1, 255, 0x01020304, max31, 1 << 31, 1<<32 - 1} {
			l = append(l, api.Ptr{At: at, Sum: sum})
		}
	}
	return l
}

// validSlots: all limits of all numbers, and some between them, of inodes that exist and of those that don't.
func validSlots() []api.Slot {
	var l []api.Slot
	for _, p := range append(validPtrs(), api.Ptr{}) {
		for _, ver := range []int{0, 1, 255, 256, 65536, 1 << 24, max31 - 1, max31} {
			l = append(l, api.Slot{P: p, Ver: ver})
		}
	}
	return l
}

// maps lists valid ones of all kinds: few inodes and many, at the edges of the blocks, and with numbers at the limits.
func maps() []api.Imap {
	l := []api.Imap{{}, example(), without(example(), 1), without(example(), 39), without(example(), 9, 10, 19, 20, 29, 30)}
	for ino := 1; ino <= api.MaxIno; ino++ {
		l = append(l, without(example(), ino), with(api.Imap{}, ino, example()[ino]))
	}
	most := api.Imap{}
	for i, s := range validSlots() {
		ino := 1 + i%api.MaxIno
		l = append(l, with(example(), ino, s), with(api.Imap{}, ino, s))
		most[ino] = api.Slot{P: api.Ptr{At: max31, Sum: 1<<32 - 1}, Ver: max31}
	}
	return append(l, most, without(most, 1, 11, 21, 31), random(1), random(2), random(3))
}

// random returns a valid map, which the seed determines.
func random(seed int64) api.Imap {
	r, m := rand.New(rand.NewSource(seed)), api.Imap{}
	for ino := 1; ino <= api.MaxIno; ino++ {
		m[ino].Ver = r.Intn(max31)
		if r.Intn(2) == 0 {
			m[ino].P = api.Ptr{At: 1 + r.Intn(max31), Sum: r.Uint32()}
		}
	}
	return m
}

// over lists numbers that are not 0 to 2^31 - 1.
func over() []int {
	return []int{minInt, minInt + 1, -1 << 48, -1<<32 + 1, -1 << 31, -2, -1, max31 + 1, max31 + 2, 1<<32 - 1, 1 << 32, 1<<32 + 1, 1 << 48, maxInt - 1, maxInt}
}

// wrongPtrs lists pointers that are not valid.
func wrongPtrs() []api.Ptr {
	l := []api.Ptr{{Sum: 1}, {Sum: 256}, {Sum: 1 << 31}, {Sum: 1<<32 - 1}}
	for _, n := range over() {
		l = append(l, api.Ptr{At: n}, api.Ptr{At: n, Sum: 0x01020304})
	}
	return l
}

// wrongMaps lists those with one thing that is not as required.
func wrongMaps() []api.Imap {
	l := []api.Imap{}
	for _, m := range []api.Imap{{}, example()} {
		for _, s := range []api.Slot{{Ver: 1}, {Ver: max31}, {P: api.Ptr{At: 1}}, {P: api.Ptr{At: 5, Sum: 6}}, {P: api.Ptr{Sum: 1}}, {P: api.Ptr{At: -1}}, {Ver: -1}} {
			l = append(l, with(m, 0, s))
		}
		for ino := 1; ino <= api.MaxIno; ino++ {
			for _, p := range wrongPtrs() {
				l = append(l, with(m, ino, api.Slot{P: p, Ver: 3}))
			}
			for _, n := range over() {
				l = append(l, with(m, ino, api.Slot{P: api.Ptr{At: 5, Sum: 6}, Ver: n}), with(m, ino, api.Slot{Ver: n}))
			}
		}
	}
	return l
}

// wrongBlocks lists numbers of blocks that a map has not.
func wrongBlocks() []int {
	return []int{minInt, -1<<32 + 1, -256, -4, -1, 4, 5, 39, 40, 255, 256, 257, 1 << 32, 1<<32 + 1, maxInt}
}

// wrongInos lists numbers that no inode has.
func wrongInos() []int {
	return []int{minInt, -1<<32 + 1, -256, -39, -1, 0, 40, 41, 255, 256, 257, 1 << 32, 1<<32 + 1, maxInt}
}

func wantEncode(t *testing.T, m api.Imap, k int, want []byte, wantErr api.Errno) {
	t.Helper()
	if b, e := imap.Encode(m, k); !bytes.Equal(b, want) || e != wantErr {
		t.Errorf("Encode(%v, %d): %v, %d; want %v, %d", m, k, b, e, want, wantErr)
	}
}

func wantDecode(t *testing.T, m api.Imap, k int, b []byte, want api.Imap, wantErr api.Errno) {
	t.Helper()
	if x, e := imap.Decode(m, k, b); x != want || e != wantErr {
		t.Errorf("Decode(%v, %d, %v): %v, %d; want %v, %d", m, k, b, x, e, want, wantErr)
	}
}

// wantNoForm has what is not block k be refused, whatever valid map it would become a block of.
func wantNoForm(t *testing.T, k int, b []byte) {
	t.Helper()
	wantDecode(t, api.Imap{}, k, b, api.Imap{}, api.ErrForm)
	wantDecode(t, example(), k, b, api.Imap{}, api.ErrForm)
}

func wantFree(t *testing.T, m api.Imap, want int, wantErr api.Errno) {
	t.Helper()
	if n, e := imap.Free(m); n != want || e != wantErr {
		t.Errorf("Free(%v): %d, %d; want %d, %d", m, n, e, want, wantErr)
	}
}

func wantPut(t *testing.T, m api.Imap, ino int, p api.Ptr, want api.Imap, wantErr api.Errno) {
	t.Helper()
	if x, e := imap.Put(m, ino, p); x != want || e != wantErr {
		t.Errorf("Put(%v, %d, %v): %v, %d; want %v, %d", m, ino, p, x, e, want, wantErr)
	}
}

func wantDrop(t *testing.T, m api.Imap, ino int, want api.Imap, wantErr api.Errno) {
	t.Helper()
	if x, e := imap.Drop(m, ino); x != want || e != wantErr {
		t.Errorf("Drop(%v, %d): %v, %d; want %v, %d", m, ino, x, e, want, wantErr)
	}
}

func wantGive(t *testing.T, m api.Imap, ino int, want api.Imap, wantErr api.Errno) {
	t.Helper()
	if x, e := imap.Give(m, ino); x != want || e != wantErr {
		t.Errorf("Give(%v, %d): %v, %d; want %v, %d", m, ino, x, e, want, wantErr)
	}
}

func wantChanged(t *testing.T, a, b api.Imap, want []int) {
	t.Helper()
	if l := imap.Changed(a, b); !slices.Equal(l, want) {
		t.Errorf("Changed(%v, %v): %v; want %v", a, b, l, want)
	}
}

func wantThere(t *testing.T, m api.Imap, want []int) {
	t.Helper()
	if l := imap.There(m); !slices.Equal(l, want) {
		t.Errorf("There(%v): %v; want %v", m, l, want)
	}
}

func TestP12_1ValidMaps(t *testing.T) {
	for _, m := range maps() {
		if !imap.May(m) {
			t.Errorf("May(%v): false", m)
		}
		for k := range api.MapBlocks {
			wantEncode(t, m, k, blockOf(m, k), api.OK)
		}
	}
}

// TestP12_1InvalidMaps has an invalid map be told first, whatever else is wrong.
func TestP12_1InvalidMaps(t *testing.T) {
	var none api.Imap
	good := blockOf(example(), 1)
	for _, m := range wrongMaps() {
		if imap.May(m) {
			t.Errorf("May(%v): true", m)
		}
		for _, k := range []int{0, 1, 2, 3, -1, 4} {
			wantEncode(t, m, k, nil, api.ErrArg)
			wantDecode(t, m, k, good, none, api.ErrArg)
			wantDecode(t, m, k, nil, none, api.ErrArg)
		}
		wantFree(t, m, 0, api.ErrArg)
		for _, ino := range []int{0, 1, 5, 39, 40} {
			wantPut(t, m, ino, api.Ptr{At: 5, Sum: 6}, none, api.ErrArg)
			wantPut(t, m, ino, api.Ptr{}, none, api.ErrArg)
			wantDrop(t, m, ino, none, api.ErrArg)
			wantGive(t, m, ino, none, api.ErrArg)
		}
		wantChanged(t, m, api.Imap{}, nil)
		wantChanged(t, example(), m, nil)
		wantChanged(t, m, m, nil)
		wantThere(t, m, nil)
	}
}

// TestP12_1InvalidMapsReplaced has a map be refused even if the call would put right what is wrong with it.
func TestP12_1InvalidMapsReplaced(t *testing.T) {
	for ino := 1; ino <= api.MaxIno; ino++ {
		m := with(example(), ino, api.Slot{P: api.Ptr{Sum: 1}})
		k := ino / api.MapSlots
		wantDecode(t, m, k, blockOf(example(), k), api.Imap{}, api.ErrArg)
		wantPut(t, m, ino, api.Ptr{At: 5}, api.Imap{}, api.ErrArg)
		wantDrop(t, with(example(), ino, api.Slot{P: api.Ptr{At: max31 + 1}}), ino, api.Imap{}, api.ErrArg)
		wantGive(t, with(example(), ino, api.Slot{Ver: -1}), ino, api.Imap{}, api.ErrArg)
		wantGive(t, with(example(), ino, api.Slot{Ver: max31 + 1}), ino, api.Imap{}, api.ErrArg)
	}
	wantDecode(t, with(example(), 0, api.Slot{Ver: 1}), 0, blockOf(example(), 0), api.Imap{}, api.ErrArg)
}

func TestP12_1NoSuchBlock(t *testing.T) {
	for _, k := range wrongBlocks() {
		for _, m := range []api.Imap{{}, example()} {
			wantEncode(t, m, k, nil, api.ErrRange)
			wantDecode(t, m, k, blockOf(m, 3), api.Imap{}, api.ErrRange)
			wantDecode(t, m, k, nil, api.Imap{}, api.ErrRange)
			wantDecode(t, m, k, changed(blockOf(m, 0), 4, byte(k)), api.Imap{}, api.ErrRange)
		}
	}
}

// TestP12_1DecodeOneBlock has the other blocks of the map stay as they were.
func TestP12_1DecodeOneBlock(t *testing.T) {
	l := maps()
	for i, m := range l {
		other := l[(i*7+3)%len(l)]
		for k := range api.MapBlocks {
			want := other
			copy(want[10*k:10*k+10], m[10*k:10*k+10])
			wantDecode(t, other, k, blockOf(m, k), want, api.OK)
		}
	}
}

// TestP12_1InvalidSlots has blocks of maps that are not valid, as far as their numbers fit.
func TestP12_1InvalidSlots(t *testing.T) {
	wrong := []api.Slot{{P: api.Ptr{Sum: 1}}, {P: api.Ptr{Sum: 1 << 31}}, {P: api.Ptr{Sum: 1<<32 - 1}, Ver: 3}}
	for _, n := range []int{max31 + 1, max31 + 2, 1<<31 + 1<<24, 1<<32 - 1} {
		wrong = append(wrong, api.Slot{P: api.Ptr{At: n}}, api.Slot{P: api.Ptr{At: n, Sum: 9}}, api.Slot{Ver: n}, api.Slot{P: api.Ptr{At: 5, Sum: 9}, Ver: n})
	}
	for ino := range api.MapBlocks * api.MapSlots {
		for _, s := range wrong {
			wantNoForm(t, ino/api.MapSlots, blockOf(with(example(), ino, s), ino/api.MapSlots))
		}
	}
	for i := headSize; i < headSize+slotSize; i++ { // the slot of no inode
		wantNoForm(t, 0, changed(blockOf(example(), 0), i, 1))
		wantNoForm(t, 0, changed(blockOf(api.Imap{}, 0), i, 1))
		wantNoForm(t, 0, changed(blockOf(api.Imap{}, 0), i, 128))
	}
	wantNoForm(t, 0, blockOf(with(example(), 0, api.Slot{P: api.Ptr{At: 5, Sum: 6}, Ver: 7}), 0))
	// what is the slot of no inode in block 0 is that of one in the others
	for k := 1; k < api.MapBlocks; k++ {
		wantDecode(t, api.Imap{}, k, changed(blockOf(api.Imap{}, k), headSize+3, 1), with(api.Imap{}, 10*k, api.Slot{P: api.Ptr{At: 1}}), api.OK)
	}
}

// TestP12_1OtherBlocks has blocks that differ from one of a map in one byte, and those that are too short or too long.
func TestP12_1OtherBlocks(t *testing.T) {
	for _, m := range []api.Imap{{}, example()} {
		for k := range api.MapBlocks {
			good := blockOf(m, k)
			for i := range 4 {
				for _, c := range []byte{0, good[i] - 1, good[i] + 1, good[i] ^ 0x20, good[i] ^ 0x80, 255} {
					wantNoForm(t, k, changed(good, i, c))
				}
			}
			for c := range 256 {
				if c != k {
					wantNoForm(t, k, changed(good, 4, byte(c)))
				}
			}
			for i := used; i < api.Block; i++ {
				wantNoForm(t, k, changed(good, i, 1))
				wantNoForm(t, k, changed(good, i, 128))
			}
			for size := range api.Block {
				wantNoForm(t, k, good[:size])
			}
			for _, more := range [][]byte{{0}, {1}, make([]byte, 128), good} {
				wantNoForm(t, k, append(bytes.Clone(good), more...))
			}
			wantNoForm(t, k, good[1:])
			wantNoForm(t, k, append([]byte{0}, good[:127]...))
		}
	}
	for k := range api.MapBlocks {
		for _, b := range [][]byte{nil, {}, []byte("imap"), make([]byte, api.Block), bytes.Repeat([]byte{255}, api.Block), make([]byte, 1<<16)} {
			wantNoForm(t, k, b)
		}
	}
}

func TestP12_2FreeOfEachMap(t *testing.T) {
	wantFree(t, api.Imap{}, 1, api.OK)
	wantFree(t, example(), 0, api.ErrFull)
	full := api.Imap{}
	for ino := 1; ino <= api.MaxIno; ino++ {
		wantFree(t, full, ino, api.OK)
		wantFree(t, without(example(), ino), ino, api.OK)
		wantFree(t, without(example(), ino, 39), ino, api.OK)
		wantFree(t, with(example(), ino, api.Slot{}), ino, api.OK)
		wantFree(t, with(example(), ino, api.Slot{Ver: max31}), ino, api.OK)
		full[ino].P.At = 1
	}
	wantFree(t, full, 0, api.ErrFull)
}

func TestP12_2PutOfEach(t *testing.T) {
	for _, m := range []api.Imap{{}, example(), random(5)} {
		for ino := 1; ino <= api.MaxIno; ino++ {
			for _, p := range validPtrs() {
				wantPut(t, m, ino, p, with(m, ino, api.Slot{P: p, Ver: m[ino].Ver}), api.OK)
			}
			for _, p := range append(wrongPtrs(), api.Ptr{}) {
				wantPut(t, m, ino, p, api.Imap{}, api.ErrArg)
			}
		}
		for _, ino := range wrongInos() {
			wantPut(t, m, ino, api.Ptr{At: 5, Sum: 6}, api.Imap{}, api.ErrRange)
			wantPut(t, m, ino, api.Ptr{}, api.Imap{}, api.ErrRange)
			wantPut(t, m, ino, api.Ptr{Sum: 1}, api.Imap{}, api.ErrRange)
			wantPut(t, m, ino, api.Ptr{At: -1}, api.Imap{}, api.ErrRange)
		}
	}
}

func TestP12_2DropOfEach(t *testing.T) {
	for _, m := range maps() {
		for ino := 1; ino <= api.MaxIno; ino++ {
			if m[ino].P.At == 0 {
				wantDrop(t, m, ino, api.Imap{}, api.ErrNone)
			} else {
				wantDrop(t, m, ino, without(m, ino), api.OK)
				wantDrop(t, without(m, ino), ino, api.Imap{}, api.ErrNone)
			}
		}
	}
	for _, ino := range wrongInos() {
		wantDrop(t, api.Imap{}, ino, api.Imap{}, api.ErrRange)
		wantDrop(t, example(), ino, api.Imap{}, api.ErrRange)
	}
}

func TestP12_2GiveOfEach(t *testing.T) {
	for _, p := range []api.Ptr{{}, {At: 5, Sum: 6}, {At: max31, Sum: 1<<32 - 1}} {
		for ino := 1; ino <= api.MaxIno; ino++ {
			for _, m := range []api.Imap{{}, example()} {
				for _, ver := range []int{0, 1, 255, 256, 65535, 1<<24 - 1, max31 - 2, max31 - 1} {
					wantGive(t, with(m, ino, api.Slot{P: p, Ver: ver}), ino, with(m, ino, api.Slot{P: p, Ver: ver + 1}), api.OK)
				}
				wantGive(t, with(m, ino, api.Slot{P: p, Ver: max31}), ino, api.Imap{}, api.ErrOver)
			}
		}
	}
	for _, ino := range wrongInos() {
		wantGive(t, api.Imap{}, ino, api.Imap{}, api.ErrRange)
		wantGive(t, example(), ino, api.Imap{}, api.ErrRange)
	}
}

func TestP12_3ChangedExamples(t *testing.T) {
	var m api.Imap
	p := api.Ptr{At: 5, Sum: 6}
	wantChanged(t, m, m, nil)
	wantChanged(t, m, with(m, 7, api.Slot{P: p}), []int{0})
	wantChanged(t, m, with(m, 10, api.Slot{P: p}), []int{1})
	wantChanged(t, m, example(), []int{0, 1, 2, 3})
}

// TestP12_3ChangedSlots changes one number of one slot.
func TestP12_3ChangedSlots(t *testing.T) {
	m := example()
	for ino := 1; ino <= api.MaxIno; ino++ {
		at, sum, ver := m, m, m
		at[ino].P.At ^= 1
		sum[ino].P.Sum ^= 1 << 31
		ver[ino].Ver ^= 1 << 8
		for _, x := range []api.Imap{at, sum, ver, without(m, ino)} {
			wantChanged(t, m, x, []int{ino / 10})
			wantChanged(t, x, m, []int{ino / 10})
			wantChanged(t, x, x, nil)
		}
		wantChanged(t, at, sum, []int{ino / 10})
		wantChanged(t, api.Imap{}, with(api.Imap{}, ino, api.Slot{Ver: 1}), []int{ino / 10})
	}
}

// TestP12_3ChangedBlocks changes every set of blocks, in two orders.
func TestP12_3ChangedBlocks(t *testing.T) {
	for set := range 16 {
		m, want := random(9), []int(nil)
		for _, k := range []int{2, 0, 3, 1} {
			if set>>k&1 == 1 {
				m[10*k+9] = api.Slot{P: api.Ptr{At: 1}, Ver: max31}
				want = append(want, k)
			}
		}
		slices.Sort(want)
		wantChanged(t, random(9), m, want)
		wantChanged(t, m, random(9), want)
	}
}

func TestP12_3ThereOfEachMap(t *testing.T) {
	wantThere(t, api.Imap{}, nil)
	wantThere(t, with(api.Imap{}, 5, api.Slot{Ver: max31}), nil)
	wantThere(t, with(api.Imap{}, 39, api.Slot{P: api.Ptr{At: 1}}), []int{39})
	for _, m := range maps() {
		var want []int
		for ino := 1; ino <= 39; ino++ {
			if m[ino].P.At > 0 {
				want = append(want, ino)
			}
		}
		wantThere(t, m, want)
	}
}

func TestP12_4AsItWas(t *testing.T) {
	for _, m := range maps() {
		for _, order := range [][]int{{0, 1, 2, 3}, {3, 1, 0, 2}} {
			x := api.Imap{}
			y := example()
			for _, k := range order {
				b, e := imap.Encode(m, k)
				if e != api.OK {
					t.Fatalf("Encode(%v, %d): %d", m, k, e)
				}
				var ex, ey api.Errno
				x, ex = imap.Decode(x, k, b)
				y, ey = imap.Decode(y, k, b)
				if ex != api.OK || ey != api.OK {
					t.Fatalf("Decode of %v: %d, %d", b, ex, ey)
				}
			}
			if x != m || y != m {
				t.Errorf("decoded as %v and %v; want %v", x, y, m)
			}
		}
	}
}

// TestP12_4ChangedBlocksAlone has a map be kept up to date by the blocks in which it differs.
func TestP12_4ChangedBlocksAlone(t *testing.T) {
	l := maps()
	for i, m := range l {
		x := l[(i*5+1)%len(l)]
		for _, k := range imap.Changed(x, m) {
			b, _ := imap.Encode(m, k)
			x, _ = imap.Decode(x, k, b)
		}
		if x != m {
			t.Errorf("decoded as %v; want %v", x, m)
		}
	}
}

// TestManySteps holds long random ways of putting, dropping and giving against a map of Go's.
func TestManySteps(t *testing.T) {
	r, m := rand.New(rand.NewSource(12)), api.Imap{}
	there, given := map[int]api.Ptr{}, map[int]int{}
	for range 20000 {
		ino := r.Intn(42) - 1
		inside := ino >= 1 && ino <= 39
		_, exists := there[ino]
		x, e, want := m, api.OK, api.OK
		if !inside {
			want = api.ErrRange
		}
		switch r.Intn(3) {
		case 0:
			p := api.Ptr{At: 1 + r.Intn(max31), Sum: r.Uint32()}
			if x, e = imap.Put(m, ino, p); inside {
				there[ino] = p
			}
		case 1:
			if x, e = imap.Drop(m, ino); inside && !exists {
				want = api.ErrNone
			}
			delete(there, ino)
		default:
			if x, e = imap.Give(m, ino); inside {
				given[ino]++
			}
		}
		if e != want {
			t.Fatalf("inode %d of %v: %d; want %d", ino, m, e, want)
		}
		if e == api.OK {
			m = x
		}
		for i := range m {
			if m[i] != (api.Slot{P: there[i], Ver: given[i]}) {
				t.Fatalf("inode %d: %v; want %v, %d", i, m[i], there[i], given[i])
			}
		}
	}
}

func TestArgumentsAreNotModified(t *testing.T) {
	m := example()
	b := blockOf(random(4), 1)
	before := bytes.Clone(b)
	imap.Decode(m, 1, b)
	imap.Put(m, 4, api.Ptr{At: 5})
	imap.Drop(m, 4)
	imap.Give(m, 4)
	if m != example() || !bytes.Equal(b, before) {
		t.Error("an argument was modified")
	}
}

func TestResultsAreNewMemory(t *testing.T) {
	first, _ := imap.Encode(example(), 2)
	clear(first)
	wantEncode(t, example(), 2, blockOf(example(), 2), api.OK)
	b := blockOf(example(), 2)
	x, e := imap.Decode(api.Imap{}, 2, b)
	clear(b)
	if e != api.OK || x[25] != example()[25] {
		t.Errorf("the result of Decode has changed with its argument: %v, %d", x[25], e)
	}
	clear(imap.There(example()))
	clear(imap.Changed(api.Imap{}, example()))
	wantChanged(t, api.Imap{}, example(), []int{0, 1, 2, 3})
	if l := imap.There(example()); len(l) != 39 || l[0] != 1 || l[38] != 39 {
		t.Errorf("There: %v", l)
	}
}
