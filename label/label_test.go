package label_test

import (
	"bytes"
	"testing"

	"haymow/api"
	"haymow/crc"
	"haymow/label"
)

const (
	maxInt = int(^uint(0) >> 1)
	minInt = -maxInt - 1
	maxGen = 1<<32 - 1
)

// example is the geometry of the chapter's example.
var example = api.Geo{Disk: 10, Lines: 2, Vols: 2, Segs: 3}

// superOf lays a superblock out byte by byte, whatever the geometry is.
func superOf(g api.Geo) []byte {
	return []byte{0x68, 0x61, 0x79, 0x6d, byte(g.Disk >> 8), byte(g.Disk), byte(g.Lines >> 8), byte(g.Lines), byte(g.Vols), byte(g.Segs >> 8), byte(g.Segs)}
}

// labelOf lays a label out byte by byte, whatever its numbers are.
func labelOf(vol, gen int) []byte {
	return []byte{0x68, 0x76, 0x6f, 0x6c, byte(vol), byte(gen >> 24), byte(gen >> 16), byte(gen >> 8), byte(gen)}
}

// sealed returns the sealed block of some bytes.
func sealed(t *testing.T, b []byte) []byte {
	t.Helper()
	s, e := crc.Seal(b)
	if e != api.OK || len(s) != api.Block {
		t.Fatalf("Seal of %d bytes: %d bytes, %d", len(b), len(s), e)
	}
	return s
}

// changed returns a copy of a block's contents, sealed anew, with another byte at i.
func changed(t *testing.T, block []byte, i int, c byte) []byte {
	t.Helper()
	b := bytes.Clone(block[:api.Block-4])
	b[i] = c
	return sealed(t, b)
}

func wantSuper(t *testing.T, g api.Geo) []byte {
	t.Helper()
	b, e := label.Super(g)
	if want := sealed(t, superOf(g)); e != api.OK || !bytes.Equal(b, want) {
		t.Errorf("Super(%v): %v, %d; want %v", g, b, e, want)
	}
	return b
}

func wantNoSuper(t *testing.T, g api.Geo) {
	t.Helper()
	if b, e := label.Super(g); len(b) != 0 || e != api.ErrArg {
		t.Errorf("Super(%v): %v, %d; want nothing, ErrArg", g, b, e)
	}
}

func wantReadSuper(t *testing.T, b []byte, want api.Geo, wantErr api.Errno) {
	t.Helper()
	if g, e := label.ReadSuper(b); g != want || e != wantErr {
		t.Errorf("ReadSuper(%v): %v, %d; want %v, %d", b, g, e, want, wantErr)
	}
}

func wantLabel(t *testing.T, vol, gen int) []byte {
	t.Helper()
	b, e := label.Label(vol, gen)
	if want := sealed(t, labelOf(vol, gen)); e != api.OK || !bytes.Equal(b, want) {
		t.Errorf("Label(%d, %d): %v, %d; want %v", vol, gen, b, e, want)
	}
	return b
}

func wantNoLabel(t *testing.T, vol, gen int) {
	t.Helper()
	if b, e := label.Label(vol, gen); len(b) != 0 || e != api.ErrArg {
		t.Errorf("Label(%d, %d): %v, %d; want nothing, ErrArg", vol, gen, b, e)
	}
}

func wantReadLabel(t *testing.T, b []byte, wantVol, wantGen int, wantErr api.Errno) {
	t.Helper()
	if vol, gen, e := label.ReadLabel(b); vol != wantVol || gen != wantGen || e != wantErr {
		t.Errorf("ReadLabel(%v): %d, %d, %d; want %d, %d, %d", b, vol, gen, e, wantVol, wantGen, wantErr)
	}
}

// valid geometries: all limits of all numbers, with each other, and some between them.
func valid() []api.Geo {
	l := []api.Geo{example, {Disk: 255, Lines: 249, Vols: 7, Segs: 255}}
	for _, disk := range []int{8, 9, 200, 256} {
		for _, lines := range []int{1, 2, disk - 6} {
			for _, vols := range []int{0, 1, 8} {
				for _, segs := range []int{1, 17, 256} {
					l = append(l, api.Geo{Disk: disk, Lines: lines, Vols: vols, Segs: segs})
				}
			}
		}
	}
	return l
}

// invalid geometries whose numbers fit in their bytes.
func invalid() []api.Geo {
	l := []api.Geo{{}, {Disk: 8, Lines: 3, Vols: 2, Segs: 3}, {Disk: 256, Lines: 251, Vols: 2, Segs: 3}}
	for _, n := range []int{0, 1, 6, 7, 257, 1<<16 - 1} {
		l = append(l, api.Geo{Disk: n, Lines: 1, Vols: 2, Segs: 3})
	}
	for _, n := range []int{0, 5, 10, 256, 1<<16 - 1} {
		l = append(l, api.Geo{Disk: 10, Lines: n, Vols: 2, Segs: 3})
	}
	for _, n := range []int{9, 10, 255} {
		l = append(l, api.Geo{Disk: 10, Lines: 2, Vols: n, Segs: 3})
	}
	for _, n := range []int{0, 257, 1<<16 - 1} {
		l = append(l, api.Geo{Disk: 10, Lines: 2, Vols: 2, Segs: n}, api.Geo{Disk: 10, Lines: 2, Segs: n})
	}
	return l
}

// far numbers are outside every limit, some of them with bytes that would be within it.
func far() []int {
	return []int{minInt, minInt + 8, -1 << 32, -1, 1<<32 + 8, 1<<40 + 1, maxInt - 1, maxInt}
}

// gens: limits, and numbers whose bytes all differ.
func gens() []int {
	return []int{0, 1, 7, 255, 256, 0x01020304, 0x7fffffff, 0x80000000, 0xfefdfcfb, maxGen - 1, maxGen}
}

func TestP5_1Example(t *testing.T) {
	b := wantSuper(t, example)
	if want := []byte{0x68, 0x61, 0x79, 0x6d, 0, 10, 0, 2, 2, 0, 3}; !bytes.HasPrefix(b, want) {
		t.Errorf("Super(%v) is %v; want %v first", example, b, want)
	}
	wantReadSuper(t, b, example, api.OK)
	wantReadSuper(t, make([]byte, api.Block), api.Geo{}, api.ErrSum)
}

func TestP5_1SuperOfEach(t *testing.T) {
	for _, g := range valid() {
		wantSuper(t, g)
		wantReadSuper(t, sealed(t, superOf(g)), g, api.OK)
	}
}

func TestP5_1InvalidGeometry(t *testing.T) {
	for _, g := range invalid() {
		wantNoSuper(t, g)
		wantReadSuper(t, sealed(t, superOf(g)), api.Geo{}, api.ErrForm)
	}
	for _, n := range far() {
		wantNoSuper(t, api.Geo{Disk: n, Lines: 2, Vols: 2, Segs: 3})
		wantNoSuper(t, api.Geo{Disk: 10, Lines: n, Vols: 2, Segs: 3})
		wantNoSuper(t, api.Geo{Disk: 10, Lines: 2, Vols: n, Segs: 3})
		wantNoSuper(t, api.Geo{Disk: 10, Lines: 2, Vols: 2, Segs: n})
		wantNoSuper(t, api.Geo{Disk: n, Lines: n, Vols: n, Segs: n})
	}
}

// notSealed lists what is no sealed block, though a good block is at its beginning, or in it.
func notSealed(good []byte) [][]byte {
	l := [][]byte{nil, {}, good[:4], good[:11], good[:127], good[1:], append(bytes.Clone(good), 0), append(bytes.Clone(good), good...), make([]byte, 124), make([]byte, 127), make([]byte, 128), bytes.Repeat([]byte{255}, 128)}
	for i := range good {
		b := bytes.Clone(good)
		b[i] ^= 1 << (i % 8)
		l = append(l, b)
	}
	return l
}

func TestP5_1NotSealed(t *testing.T) {
	for _, b := range notSealed(sealed(t, superOf(example))) {
		wantReadSuper(t, b, api.Geo{}, api.ErrSum)
	}
	short := superOf(api.Geo{}) // neither sealed nor a superblock: the checksum is first
	wantReadSuper(t, short, api.Geo{}, api.ErrSum)
}

// TestP5_1OtherBlocks seals blocks that differ from a superblock in one byte.
func TestP5_1OtherBlocks(t *testing.T) {
	good := sealed(t, superOf(example))
	for i := range 4 {
		for _, c := range []byte{0, good[i] - 1, good[i] + 1, good[i] ^ 0x20, good[i] ^ 0x80, 255} {
			wantReadSuper(t, changed(t, good, i, c), api.Geo{}, api.ErrForm)
		}
	}
	for i := len(superOf(example)); i < api.Block-4; i++ {
		wantReadSuper(t, changed(t, good, i, 1), api.Geo{}, api.ErrForm)
		wantReadSuper(t, changed(t, good, i, 128), api.Geo{}, api.ErrForm)
	}
	wantReadSuper(t, sealed(t, nil), api.Geo{}, api.ErrForm)
	wantReadSuper(t, sealed(t, []byte("haym")), api.Geo{}, api.ErrForm)
	wantReadSuper(t, sealed(t, append([]byte{0}, superOf(example)...)), api.Geo{}, api.ErrForm)
	wantReadSuper(t, sealed(t, bytes.Repeat([]byte{255}, 124)), api.Geo{}, api.ErrForm)
}

func TestP5_2Examples(t *testing.T) {
	b := wantLabel(t, 3, 0x01020304)
	if want := []byte{0x68, 0x76, 0x6f, 0x6c, 3, 1, 2, 3, 4, 0}; !bytes.HasPrefix(b, want) {
		t.Errorf("Label(3, 01020304) is %v; want %v first", b, want)
	}
	wantReadLabel(t, b, 3, 0x01020304, api.OK)
	wantNoLabel(t, 8, 0)
	wantReadLabel(t, make([]byte, api.Block), 0, 0, api.ErrSum)
}

func TestP5_2LabelOfEach(t *testing.T) {
	for vol := range api.MaxVols {
		for _, gen := range gens() {
			wantLabel(t, vol, gen)
			wantReadLabel(t, sealed(t, labelOf(vol, gen)), vol, gen, api.OK)
		}
	}
}

func TestP5_2NotAsRequired(t *testing.T) {
	for _, n := range append(far(), 8, 9, 255, 256, 257) {
		wantNoLabel(t, n, 0)
		wantNoLabel(t, n, maxGen)
	}
	for _, n := range append(far(), maxGen+1, maxGen+2) {
		for _, vol := range []int{0, 7, 8, n} {
			wantNoLabel(t, vol, n)
		}
	}
	for vol := api.MaxVols; vol < 256; vol++ {
		wantReadLabel(t, sealed(t, labelOf(vol, 0)), 0, 0, api.ErrForm)
		wantReadLabel(t, sealed(t, labelOf(vol, maxGen)), 0, 0, api.ErrForm)
	}
}

func TestP5_2NotSealed(t *testing.T) {
	for _, b := range notSealed(sealed(t, labelOf(7, 0xfefdfcfb))) {
		wantReadLabel(t, b, 0, 0, api.ErrSum)
	}
	wantReadLabel(t, labelOf(8, 0), 0, 0, api.ErrSum) // neither sealed nor a label: the checksum is first
}

// TestP5_2OtherBlocks seals blocks that differ from a label in one byte.
func TestP5_2OtherBlocks(t *testing.T) {
	good := sealed(t, labelOf(3, 7))
	for i := range 4 {
		for _, c := range []byte{0, good[i] - 1, good[i] + 1, good[i] ^ 0x20, good[i] ^ 0x80, 255} {
			wantReadLabel(t, changed(t, good, i, c), 0, 0, api.ErrForm)
		}
	}
	for i := len(labelOf(3, 7)); i < api.Block-4; i++ {
		wantReadLabel(t, changed(t, good, i, 1), 0, 0, api.ErrForm)
		wantReadLabel(t, changed(t, good, i, 128), 0, 0, api.ErrForm)
	}
	wantReadLabel(t, sealed(t, nil), 0, 0, api.ErrForm)
	wantReadLabel(t, sealed(t, append([]byte{0}, labelOf(3, 7)...)), 0, 0, api.ErrForm)
	wantReadLabel(t, sealed(t, bytes.Repeat([]byte{255}, 124)), 0, 0, api.ErrForm)
}

func TestP5_3AsItWas(t *testing.T) {
	for _, g := range valid() {
		b, _ := label.Super(g)
		wantReadSuper(t, b, g, api.OK)
	}
	for vol := range api.MaxVols {
		for _, gen := range gens() {
			b, _ := label.Label(vol, gen)
			wantReadLabel(t, b, vol, gen, api.OK)
		}
	}
}

// TestP5_3EitherOr tries every block as what it is not, also with the other one's numbers behind its mark.
func TestP5_3EitherOr(t *testing.T) {
	for _, g := range valid() {
		b, _ := label.Super(g)
		wantReadLabel(t, b, 0, 0, api.ErrForm)
	}
	for vol := range api.MaxVols {
		for _, gen := range append(gens(), 0x0a000202, 0x0a000101) { // the bytes of a geometry, as far as a label has any
			b, _ := label.Label(vol, gen)
			wantReadSuper(t, b, api.Geo{}, api.ErrForm)
		}
	}
	wantReadSuper(t, sealed(t, append([]byte{0x68, 0x76, 0x6f, 0x6c}, superOf(example)[4:]...)), api.Geo{}, api.ErrForm)
	wantReadLabel(t, sealed(t, append([]byte{0x68, 0x61, 0x79, 0x6d}, labelOf(3, 7)[4:]...)), 0, 0, api.ErrForm)
}

func TestArgumentsAndResultsAreKeptApart(t *testing.T) {
	first, second := wantSuper(t, example), wantSuper(t, example)
	before := bytes.Clone(second)
	clear(first)
	if !bytes.Equal(second, before) {
		t.Error("two results of Super share memory")
	}
	wantReadSuper(t, second, example, api.OK)
	if !bytes.Equal(second, before) {
		t.Error("ReadSuper has modified its argument")
	}
	first, second = wantLabel(t, 3, 7), wantLabel(t, 3, 7)
	before = bytes.Clone(second)
	clear(first)
	if !bytes.Equal(second, before) {
		t.Error("two results of Label share memory")
	}
	wantReadLabel(t, second, 3, 7, api.OK)
	if !bytes.Equal(second, before) {
		t.Error("ReadLabel has modified its argument")
	}
	wantSuper(t, example)
	wantLabel(t, 3, 7)
}
