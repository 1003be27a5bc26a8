package inode_test

import (
	"bytes"
	"hash/crc32"
	"slices"
	"testing"

	"haymow/api"
	"haymow/crc"
	"haymow/inode"
)

const (
	maxInt  = int(^uint(0) >> 1)
	minInt  = -maxInt - 1
	max31   = 1<<31 - 1
	maxSize = 1 << 40

	headSize = 21 // bytes of an inode's block before its pointers
	ptrSize  = 8
	ptrCount = api.Direct + 3
)

// ptrsOf lays pointers out byte by byte, whatever they are.
func ptrsOf(l []api.Ptr) []byte {
	var b []byte
	for _, p := range l {
		b = append(b, byte(p.At>>24), byte(p.At>>16), byte(p.At>>8), byte(p.At),
			byte(p.Sum>>24), byte(p.Sum>>16), byte(p.Sum>>8), byte(p.Sum))
	}
	return b
}

// inodeOf lays an inode out byte by byte, whatever it is.
func inodeOf(ino int, x api.Inode) []byte {
	b := []byte{0x69, 0x6e, 0x6f, 0x64, byte(ino), byte(x.Type), byte(x.Links),
		byte(x.Ver >> 24), byte(x.Ver >> 16), byte(x.Ver >> 8), byte(x.Ver),
		byte(x.Size >> 40), byte(x.Size >> 32), byte(x.Size >> 24), byte(x.Size >> 16), byte(x.Size >> 8), byte(x.Size),
		byte(x.Tick >> 24), byte(x.Tick >> 16), byte(x.Tick >> 8), byte(x.Tick)}
	return append(b, ptrsOf(x.P[:])...)
}

// sealed returns the sealed block of some bytes.
func sealed(t *testing.T, b []byte) []byte {
	t.Helper()
	s, e := crc.Seal(b)
	if e != api.OK || len(s) != api.Block {
		t.Fatalf("Seal of %d bytes: %d bytes, %d", len(b), len(s), e)
	}
	return s
}

// changed returns a copy of a block's contents, sealed anew, with another byte at i.
func changed(t *testing.T, block []byte, i int, c byte) []byte {
	t.Helper()
	b := bytes.Clone(block[:api.Block-4])
	b[i] = c
	return sealed(t, b)
}

// sumOf is a checksum of another origin than the program's.
func sumOf(b []byte) uint32 { return crc32.Checksum(b, crc32.MakeTable(crc32.Castagnoli)) }

// content returns a block whose bytes differ from place to place, and from n to n.
func content(n int) []byte {
	b, word := make([]byte, api.Block), uint32(n)+1
	for i := range b {
		word = word*1664525 + 1013904223
		b[i] = byte(word >> 24)
	}
	return b
}

// ptrs returns n pointers, all of whose bytes differ from pointer to pointer.
func ptrs(n int) []api.Ptr {
	var l []api.Ptr
	for i := range n {
		l = append(l, api.Ptr{At: 0x01020304 + i*0x07060504, Sum: 0xfefdfcfb - uint32(i)*0x0a0b0c0d})
	}
	return l
}

// example is an inode whose numbers have bytes that all differ.
func example() api.Inode {
	return api.Inode{Type: api.TypeFile, Links: 77, Ver: 0x11121314, Size: 0x55565758, Tick: 0x21222324, P: [ptrCount]api.Ptr(ptrs(ptrCount))}
}

func wantValid(t *testing.T, ino int, x api.Inode) []byte {
	t.Helper()
	if !inode.May(x) {
		t.Errorf("May(%v): false", x)
	}
	b, e := inode.Encode(ino, x)
	if want := sealed(t, inodeOf(ino, x)); e != api.OK || !bytes.Equal(b, want) {
		t.Errorf("Encode(%d, %v): %v, %d; want %v", ino, x, b, e, want)
	}
	return b
}

func wantNoBlock(t *testing.T, ino int, x api.Inode) {
	t.Helper()
	if b, e := inode.Encode(ino, x); len(b) != 0 || e != api.ErrArg {
		t.Errorf("Encode(%d, %v): %v, %d; want nothing, ErrArg", ino, x, b, e)
	}
}

func wantInvalid(t *testing.T, x api.Inode) {
	t.Helper()
	if inode.May(x) {
		t.Errorf("May(%v): true", x)
	}
	wantNoBlock(t, 1, x)
	wantNoBlock(t, api.MaxIno, x)
}

func wantDecode(t *testing.T, ino int, b []byte, want api.Inode, wantErr api.Errno) {
	t.Helper()
	if x, e := inode.Decode(ino, b); x != want || e != wantErr {
		t.Errorf("Decode(%d, %v): %v, %d; want %v, %d", ino, b, x, e, want, wantErr)
	}
}

// wantNoForm seals bytes that are not those of a valid inode with that number.
func wantNoForm(t *testing.T, ino int, b []byte) {
	t.Helper()
	wantDecode(t, ino, sealed(t, b), api.Inode{}, api.ErrForm)
}

func wantNode(t *testing.T, l []api.Ptr) []byte {
	t.Helper()
	b, e := inode.Node(l)
	if want := sealed(t, ptrsOf(l)); e != api.OK || !bytes.Equal(b, want) {
		t.Errorf("Node(%v): %v, %d; want %v", l, b, e, want)
	}
	return b
}

func wantNoNode(t *testing.T, l []api.Ptr) {
	t.Helper()
	if b, e := inode.Node(l); len(b) != 0 || e != api.ErrArg {
		t.Errorf("Node(%v): %v, %d; want nothing, ErrArg", l, b, e)
	}
}

func wantReadNode(t *testing.T, b []byte, want []api.Ptr, wantErr api.Errno) {
	t.Helper()
	if l, e := inode.ReadNode(b); !slices.Equal(l, want) || e != wantErr {
		t.Errorf("ReadNode(%v): %v, %d; want %v, %d", b, l, e, want, wantErr)
	}
}

func wantTo(t *testing.T, at int, b []byte, want api.Ptr, wantErr api.Errno) {
	t.Helper()
	if p, e := inode.To(at, b); p != want || e != wantErr {
		t.Errorf("To(%d, %v): %v, %d; want %v, %d", at, b, p, e, want, wantErr)
	}
}

func wantPoints(t *testing.T, p api.Ptr, b []byte, want bool) {
	t.Helper()
	if got := inode.Points(p, b); got != want {
		t.Errorf("Points(%v, %v): %t", p, b, got)
	}
}

// validPtrs: all limits of both numbers, with each other, and some between them.
func validPtrs() []api.Ptr {
	l := []api.Ptr{{}}
	for _, at := range []int{1, 2, 255, 256, 4096, 0x01020304, 1 << 24, max31 - 1, max31} {
		for _, sum := range []uint32{0, 1, 255, 0x01020304, max31, 1 << 31, 1<<32 - 2, 1<<32 - 1} {
			l = append(l, api.Ptr{At: at, Sum: sum})
		}
	}
	return l
}

// valid inodes: all limits of all numbers, some of them with each other, and some between them.
func valid() []api.Inode {
	l := []api.Inode{example(), {Type: api.TypeFile}, {Type: api.TypeDir}}
	for _, kind := range []int{api.TypeFile, api.TypeDir} {
		for _, links := range []int{0, 1, 2, 127, 128, 199, 200} {
			for _, size := range []int{0, 1, 255, 256, api.MaxSize, api.MaxSize + 1, max31, 1 << 31, 1<<32 - 1, 1 << 32, 0x010203040506 >> 8, maxSize - 1, maxSize} {
				l = append(l, api.Inode{Type: kind, Links: links, Size: size})
			}
		}
	}
	for _, ver := range []int{0, 1, 255, 256, 65536, 1 << 24, max31 - 1, max31} {
		for _, tick := range []int{0, 1, 255, 256, 65536, 1 << 24, max31 - 1, max31} {
			l = append(l, api.Inode{Type: api.TypeFile, Links: 1, Ver: ver, Tick: tick})
		}
	}
	for _, p := range validPtrs() {
		for i := range ptrCount {
			x, y := example(), api.Inode{Type: api.TypeDir, Links: 2}
			x.P[i], y.P[i] = p, p
			l = append(l, x, y)
		}
	}
	most := api.Ptr{At: max31, Sum: 1<<32 - 1}
	return append(l, api.Inode{Type: 2, Links: 200, Ver: max31, Size: maxSize, Tick: max31, P: [ptrCount]api.Ptr(slices.Repeat([]api.Ptr{most}, ptrCount))})
}

// far numbers are outside every limit, some of them with bytes that would be within it.
func far() []int {
	return []int{minInt, minInt + 1, -1 << 48, -1<<32 + 1, -2, -1, maxSize + 1, 1 << 48, 1<<48 + 1, 1<<56 + 2, maxInt - 1, maxInt}
}

// over lists numbers that are not 0 to 2^31 - 1.
func over() []int {
	return append(far(), max31+1, max31+2, 1<<32-1, 1<<32, 1<<32+1, maxSize)
}

// wrongPtrs lists pointers of which one number is not as required.
func wrongPtrs() []api.Ptr {
	l := []api.Ptr{{Sum: 1}, {Sum: 256}, {Sum: 1 << 31}, {Sum: 1<<32 - 1}}
	for _, n := range over() {
		l = append(l, api.Ptr{At: n}, api.Ptr{At: n, Sum: 0x01020304})
	}
	return l
}

// wrongInodes lists inodes with one thing that is not as required.
func wrongInodes() []api.Inode {
	l := []api.Inode{{}}
	for _, n := range append(far(), 0, 3, 4, 255, 256, 257, 258) {
		x := example()
		x.Type = n
		l = append(l, x)
	}
	for _, n := range append(far(), 201, 202, 255, 256, 257) {
		x := example()
		x.Links = n
		l = append(l, x)
	}
	for _, n := range far() {
		x := example()
		x.Size = n
		l = append(l, x)
	}
	for _, n := range over() {
		x, y := example(), example()
		x.Ver, y.Tick = n, n
		l = append(l, x, y)
	}
	for _, p := range wrongPtrs() {
		for i := range ptrCount {
			x := example()
			x.P[i] = p
			l = append(l, x)
		}
	}
	return l
}

// wrongInos lists numbers that no inode has.
func wrongInos() []int {
	return append(far(), 0, 40, 41, 255, 256, 257, 1<<32+1)
}

func TestP7_1Examples(t *testing.T) {
	x := api.Inode{Type: api.TypeDir, Links: 2}
	b := wantValid(t, 1, x)
	if want := []byte{0x69, 0x6e, 0x6f, 0x64, 1, 2, 2, 0}; !bytes.HasPrefix(b, want) {
		t.Errorf("Encode(1, %v) is %v; want %v first", x, b, want)
	}
	wantDecode(t, 1, b, x, api.OK)
	wantDecode(t, 2, b, api.Inode{}, api.ErrForm)
}

func TestP7_1OfEachInode(t *testing.T) {
	for i, x := range valid() {
		ino := 1 + i%api.MaxIno
		wantValid(t, ino, x)
		wantDecode(t, ino, sealed(t, inodeOf(ino, x)), x, api.OK)
	}
}

func TestP7_1OfEachNumber(t *testing.T) {
	for ino := 1; ino <= api.MaxIno; ino++ {
		wantValid(t, ino, example())
		wantDecode(t, ino, sealed(t, inodeOf(ino, example())), example(), api.OK)
	}
}

func TestP7_1Invalid(t *testing.T) {
	for _, x := range wrongInodes() {
		wantInvalid(t, x)
	}
}

// TestP7_1WrongNumbers has a wrong number be told first, whatever the block is.
func TestP7_1WrongNumbers(t *testing.T) {
	x := example()
	for _, ino := range wrongInos() {
		wantNoBlock(t, ino, x)
		wantNoBlock(t, ino, api.Inode{})
		wantDecode(t, ino, sealed(t, inodeOf(ino, x)), api.Inode{}, api.ErrArg)
		wantDecode(t, ino, sealed(t, nil), api.Inode{}, api.ErrArg)
		wantDecode(t, ino, nil, api.Inode{}, api.ErrArg)
		wantDecode(t, ino, make([]byte, api.Block), api.Inode{}, api.ErrArg)
	}
}

// TestP7_1InvalidBlocks seals what would be the blocks of inodes that are not valid, as far as their numbers fit.
func TestP7_1InvalidBlocks(t *testing.T) {
	for n := range 256 {
		x := example()
		x.Type = n
		if n != api.TypeFile && n != api.TypeDir {
			wantNoForm(t, 7, inodeOf(7, x))
		}
	}
	for n := api.MaxLink + 1; n < 256; n++ {
		x := example()
		x.Links = n
		wantNoForm(t, 7, inodeOf(7, x))
	}
	for _, n := range []int{max31 + 1, max31 + 2, 1<<31 + 1<<24, 1<<32 - 1} {
		x, y := example(), example()
		x.Ver, y.Tick = n, n
		wantNoForm(t, 7, inodeOf(7, x))
		wantNoForm(t, 7, inodeOf(7, y))
	}
	for _, n := range []int{maxSize + 1, maxSize + 256, 1 << 41, 1 << 47, 1<<48 - 1} {
		x := example()
		x.Size = n
		wantNoForm(t, 7, inodeOf(7, x))
	}
	for i := range ptrCount {
		for _, p := range badPtrs() {
			x := example()
			x.P[i] = p
			wantNoForm(t, 7, inodeOf(7, x))
		}
	}
}

// badPtrs lists pointers that are not valid, whose numbers fit in their bytes.
func badPtrs() []api.Ptr {
	return []api.Ptr{{Sum: 1}, {Sum: 1 << 8}, {Sum: 1 << 16}, {Sum: 1 << 31}, {Sum: 1<<32 - 1},
		{At: 1 << 31}, {At: 1 << 31, Sum: 9}, {At: 1<<31 + 1, Sum: 9}, {At: 1<<32 - 1, Sum: 9}}
}

// notSealed lists what is no sealed block, though a good block is at its beginning, or in it.
func notSealed(good []byte) [][]byte {
	l := [][]byte{nil, {}, good[:4], good[:headSize], good[:120], good[:124], good[:127], good[1:], append(bytes.Clone(good), 0), append(bytes.Clone(good), good...), make([]byte, 124), make([]byte, 127), make([]byte, 128), bytes.Repeat([]byte{255}, 128)}
	for i := range good {
		b := bytes.Clone(good)
		b[i] ^= 1 << (i % 8)
		l = append(l, b)
	}
	return l
}

func TestP7_1NotSealed(t *testing.T) {
	for _, b := range notSealed(sealed(t, inodeOf(7, example()))) {
		wantDecode(t, 7, b, api.Inode{}, api.ErrSum)
	}
	wantDecode(t, 7, inodeOf(8, api.Inode{}), api.Inode{}, api.ErrSum) // neither sealed nor an inode: the checksum is first
}

// TestP7_1OtherBlocks seals blocks that differ from an inode's in one byte.
func TestP7_1OtherBlocks(t *testing.T) {
	for _, x := range []api.Inode{example(), {Type: api.TypeDir}} {
		good := sealed(t, inodeOf(7, x))
		for i := range 4 {
			for _, c := range []byte{0, good[i] - 1, good[i] + 1, good[i] ^ 0x20, good[i] ^ 0x80, 255} {
				wantDecode(t, 7, changed(t, good, i, c), api.Inode{}, api.ErrForm)
			}
		}
		for i := headSize + ptrCount*ptrSize; i < api.Block-4; i++ {
			wantDecode(t, 7, changed(t, good, i, 1), api.Inode{}, api.ErrForm)
			wantDecode(t, 7, changed(t, good, i, 128), api.Inode{}, api.ErrForm)
		}
	}
	wantNoForm(t, 7, nil)
	wantNoForm(t, 7, []byte("inod"))
	wantNoForm(t, 7, ptrsOf(ptrs(api.Fan)))
	wantNoForm(t, 7, []byte("hsum\x00\x00\x00\x00\x00\x09\x00\x00\x00\x21\x01\x01"))
	wantNoForm(t, 7, append([]byte{0}, inodeOf(7, example())...))
	wantNoForm(t, 7, bytes.Repeat([]byte{255}, 124))
}

// with returns the pointers of a node, of which number i is p.
func with(i int, p api.Ptr) []api.Ptr {
	l := ptrs(api.Fan)
	l[i] = p
	return l
}

func TestP7_2OfEachNode(t *testing.T) {
	for _, l := range [][]api.Ptr{ptrs(api.Fan), make([]api.Ptr, api.Fan), slices.Repeat([]api.Ptr{{At: max31, Sum: 1<<32 - 1}}, api.Fan)} {
		wantNode(t, l)
		wantReadNode(t, sealed(t, ptrsOf(l)), l, api.OK)
	}
	for _, p := range validPtrs() {
		for i := range api.Fan {
			alone := make([]api.Ptr, api.Fan)
			alone[i] = p
			for _, l := range [][]api.Ptr{with(i, p), alone} {
				wantNode(t, l)
				wantReadNode(t, sealed(t, ptrsOf(l)), l, api.OK)
			}
		}
	}
}

func TestP7_2OtherNumberOfPointers(t *testing.T) {
	wantNoNode(t, nil)
	for _, n := range []int{0, 1, 9, 13, 14, 16, 30, 255, 256 + 15, 1<<16 + 15} {
		wantNoNode(t, make([]api.Ptr, n))
		wantNoNode(t, slices.Repeat([]api.Ptr{{At: 5, Sum: 6}}, n))
	}
	wantNoNode(t, ptrs(api.Fan)[:api.Fan-1])
	wantNoNode(t, append(ptrs(api.Fan), api.Ptr{}))
}

func TestP7_2InvalidPointers(t *testing.T) {
	for _, p := range wrongPtrs() {
		for i := range api.Fan {
			wantNoNode(t, with(i, p))
		}
	}
	for _, p := range badPtrs() {
		for i := range api.Fan {
			wantReadNode(t, sealed(t, ptrsOf(with(i, p))), nil, api.ErrForm)
		}
	}
}

func TestP7_2NotSealed(t *testing.T) {
	for _, b := range notSealed(sealed(t, ptrsOf(ptrs(api.Fan)))) {
		wantReadNode(t, b, nil, api.ErrSum)
	}
	wantReadNode(t, ptrsOf(with(3, api.Ptr{Sum: 1})), nil, api.ErrSum) // neither sealed nor a node: the checksum is first
}

func TestP7_2OtherBlocks(t *testing.T) {
	for _, l := range [][]api.Ptr{ptrs(api.Fan), make([]api.Ptr, api.Fan)} {
		good := sealed(t, ptrsOf(l))
		for i := api.Fan * ptrSize; i < api.Block-4; i++ {
			wantReadNode(t, changed(t, good, i, 1), nil, api.ErrForm)
			wantReadNode(t, changed(t, good, i, 128), nil, api.ErrForm)
		}
	}
	wantReadNode(t, sealed(t, bytes.Repeat([]byte{255}, 124)), nil, api.ErrForm)
	wantReadNode(t, sealed(t, append([]byte{0}, ptrsOf(ptrs(api.Fan))...)), nil, api.ErrForm)
}

// blocks lists some whose checksums differ.
func blocks() [][]byte {
	return [][]byte{make([]byte, api.Block), bytes.Repeat([]byte{255}, api.Block), content(0), content(1)}
}

func TestP7_3ToOfEach(t *testing.T) {
	for _, b := range blocks() {
		for _, at := range []int{1, 2, 255, 256, 4096, 1 << 30, max31 - 1, max31} {
			want := api.Ptr{At: at, Sum: sumOf(b)}
			wantTo(t, at, b, want, api.OK)
			wantPoints(t, want, b, true)
		}
	}
}

func TestP7_3WrongAddresses(t *testing.T) {
	for _, b := range blocks() {
		for _, at := range append(over(), 0) {
			wantTo(t, at, b, api.Ptr{}, api.ErrArg)
			wantPoints(t, api.Ptr{At: at, Sum: sumOf(b)}, b, at > 0)
		}
	}
}

// TestP7_3OtherSizes has pointers with the checksum of what is not a block.
func TestP7_3OtherSizes(t *testing.T) {
	for _, size := range []int{0, 1, 4, 64, 124, 127, 129, 132, 256, 1 << 20} {
		b := bytes.Repeat([]byte{7}, size)
		for _, at := range []int{-1, 0, 1, max31, max31 + 1} {
			wantTo(t, at, b, api.Ptr{}, api.ErrArg)
			wantPoints(t, api.Ptr{At: at, Sum: sumOf(b)}, b, false)
		}
	}
	wantTo(t, 1, nil, api.Ptr{}, api.ErrArg)
	wantPoints(t, api.Ptr{At: 1}, nil, false)
	wantPoints(t, api.Ptr{}, nil, false)
}

func TestP7_3OtherSums(t *testing.T) {
	for _, b := range blocks() {
		for bit := range 32 {
			wantPoints(t, api.Ptr{At: 5, Sum: sumOf(b) ^ 1<<bit}, b, false)
		}
		wantPoints(t, api.Ptr{At: 5}, b, false)
	}
	wantPoints(t, api.Ptr{At: 5, Sum: sumOf(content(0))}, content(1), false)
	// the checksum in a sealed block is that of what is before it, not that of the block
	wantPoints(t, api.Ptr{At: 5, Sum: sumOf(content(0)[:124])}, sealed(t, content(0)[:124]), false)
	wantPoints(t, api.Ptr{At: 5, Sum: sumOf(sealed(t, content(0)[:124]))}, sealed(t, content(0)[:124]), true)
}

// change changes consecutive bits from a bit on: those that pattern has, and both the first and the last one.
func change(b []byte, from, count int, pattern uint32) {
	for i := range count {
		if i == 0 || i == count-1 || pattern>>i&1 == 1 {
			b[(from+i)/8] ^= 1 << ((from + i) % 8)
		}
	}
}

// TestP7_3ChangedBits changes what a pointer points to.
func TestP7_3ChangedBits(t *testing.T) {
	for _, b := range blocks() {
		p, e := inode.To(9, b)
		if e != api.OK || !inode.Points(p, b) {
			t.Fatalf("To: %v, %d", p, e)
		}
		for count := 1; count <= 32; count++ {
			for from := 0; from+count <= 8*api.Block; from++ {
				pattern := uint32(from*count) * 2654435761
				change(b, from, count, pattern)
				if inode.Points(p, b) {
					t.Fatalf("%v points to a block with %d bits changed from %d on", p, count, from)
				}
				change(b, from, count, pattern)
			}
		}
	}
}

func TestP7_4AsItWas(t *testing.T) {
	for i, x := range valid() {
		ino := 1 + i%api.MaxIno
		b, _ := inode.Encode(ino, x)
		wantDecode(t, ino, b, x, api.OK)
		wantDecode(t, 1+ino%api.MaxIno, b, api.Inode{}, api.ErrForm)
	}
	for _, p := range validPtrs() {
		for i := range api.Fan {
			b, _ := inode.Node(with(i, p))
			wantReadNode(t, b, with(i, p), api.OK)
		}
	}
}

func TestP7_4OtherNumber(t *testing.T) {
	for ino := 1; ino <= api.MaxIno; ino++ {
		b, _ := inode.Encode(ino, example())
		for other := 1; other <= api.MaxIno; other++ {
			if other != ino {
				wantDecode(t, other, b, api.Inode{}, api.ErrForm)
			}
		}
	}
	for ino := range 256 {
		if ino != 7 {
			wantNoForm(t, 7, inodeOf(ino, example()))
		}
	}
}

func TestArgumentsAreNotModified(t *testing.T) {
	l := ptrs(api.Fan)
	node, block := wantNode(t, l), wantValid(t, 7, example())
	nodeBefore, blockBefore := bytes.Clone(node), bytes.Clone(block)
	inode.ReadNode(node)
	inode.Decode(7, block)
	p, _ := inode.To(9, block)
	inode.Points(p, block)
	if !slices.Equal(l, ptrs(api.Fan)) || !bytes.Equal(node, nodeBefore) || !bytes.Equal(block, blockBefore) {
		t.Error("an argument was modified")
	}
}

func TestArgumentsAreNotRetained(t *testing.T) {
	l := ptrs(api.Fan)
	b, _ := inode.Node(l)
	clear(l)
	if want := sealed(t, ptrsOf(ptrs(api.Fan))); !bytes.Equal(b, want) {
		t.Errorf("the result of Node has changed with its argument: %v; want %v", b, want)
	}
	l, _ = inode.ReadNode(b)
	clear(b)
	if !slices.Equal(l, ptrs(api.Fan)) {
		t.Errorf("the result of ReadNode has changed with its argument: %v", l)
	}
}

func TestResultsAreNewMemory(t *testing.T) {
	first, second := wantValid(t, 7, example()), wantValid(t, 7, example())
	clear(first)
	wantDecode(t, 7, second, example(), api.OK)
	node, other := wantNode(t, ptrs(api.Fan)), wantNode(t, ptrs(api.Fan))
	clear(other)
	l, _ := inode.ReadNode(node)
	m, _ := inode.ReadNode(node)
	clear(l)
	if !slices.Equal(m, ptrs(api.Fan)) {
		t.Errorf("two results of ReadNode share memory: %v", m)
	}
	wantReadNode(t, node, ptrs(api.Fan), api.OK)
}
