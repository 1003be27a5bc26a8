package summary_test

import (
	"bytes"
	"hash/crc32"
	"slices"
	"testing"

	"haymow/api"
	"haymow/crc"
	"haymow/summary"
)

const (
	maxInt  = int(^uint(0) >> 1)
	minInt  = -maxInt - 1
	maxSeq  = 1<<48 - 1
	maxNext = 1<<31 - 1

	headSize = 16 // bytes of a summary before its entries
	entSize  = 8
)

// summaryOf lays a summary out byte by byte, whatever the part is; count and end are what it says of itself.
func summaryOf(p api.Part, count, end byte) []byte {
	b := []byte{0x68, 0x73, 0x75, 0x6d,
		byte(p.Seq >> 40), byte(p.Seq >> 32), byte(p.Seq >> 24), byte(p.Seq >> 16), byte(p.Seq >> 8), byte(p.Seq),
		byte(p.Next >> 24), byte(p.Next >> 16), byte(p.Next >> 8), byte(p.Next), count, end}
	for _, x := range p.L {
		b = append(b, byte(x.Kind), byte(x.Ino), byte(x.Index>>8), byte(x.Index),
			byte(x.Sum>>24), byte(x.Sum>>16), byte(x.Sum>>8), byte(x.Sum))
	}
	return b
}

// plain is the summary of a part as the chapter says it.
func plain(p api.Part) []byte {
	if p.End {
		return summaryOf(p, byte(len(p.L)), 1)
	}
	return summaryOf(p, byte(len(p.L)), 0)
}

// sealed returns the sealed block of some bytes.
func sealed(t *testing.T, b []byte) []byte {
	t.Helper()
	s, e := crc.Seal(b)
	if e != api.OK || len(s) != api.Block {
		t.Fatalf("Seal of %d bytes: %d bytes, %d", len(b), len(s), e)
	}
	return s
}

// changed returns a copy of a block's contents, sealed anew, with another byte at i.
func changed(t *testing.T, block []byte, i int, c byte) []byte {
	t.Helper()
	b := bytes.Clone(block[:api.Block-4])
	b[i] = c
	return sealed(t, b)
}

// sumOf is a checksum of another origin than the program's.
func sumOf(b []byte) uint32 { return crc32.Checksum(b, crc32.MakeTable(crc32.Castagnoli)) }

// content returns a block whose bytes differ from place to place, and from n to n.
func content(n int) []byte {
	b, word := make([]byte, api.Block), uint32(n)+1
	for i := range b {
		word = word*1664525 + 1013904223
		b[i] = byte(word >> 24)
	}
	return b
}

func contents(n int) [][]byte {
	var l [][]byte
	for i := range n {
		l = append(l, content(i))
	}
	return l
}

// ents returns n entries, all of whose numbers differ from entry to entry; their sums are those of no block.
func ents(n int) []api.Ent {
	var l []api.Ent
	for i := range n {
		l = append(l, api.Ent{Kind: 1 + i%4, Ino: 3 + 17*i, Index: 300 + 4097*i, Sum: 0x01020304 + uint32(i)*0x11111111})
	}
	return l
}

// partOf returns a part with these entries, whose numbers have bytes that all differ.
func partOf(l []api.Ent) api.Part {
	return api.Part{Seq: 0x010203040506, Next: 0x11121314, L: l}
}

// wholePart returns a part with the sums of the blocks.
func wholePart(blocks [][]byte) api.Part {
	p := partOf(ents(len(blocks)))
	for i, b := range blocks {
		p.L[i].Sum = sumOf(b)
	}
	return p
}

func same(p, q api.Part) bool {
	return p.Seq == q.Seq && p.Next == q.Next && p.End == q.End && slices.Equal(p.L, q.L)
}

func copyOf(p api.Part) api.Part {
	p.L = slices.Clone(p.L)
	return p
}

func wantValid(t *testing.T, p api.Part) []byte {
	t.Helper()
	if !summary.May(p) {
		t.Errorf("May(%v): false", p)
	}
	b, e := summary.Encode(p)
	if want := sealed(t, plain(p)); e != api.OK || !bytes.Equal(b, want) {
		t.Errorf("Encode(%v): %v, %d; want %v", p, b, e, want)
	}
	return b
}

func wantInvalid(t *testing.T, p api.Part) {
	t.Helper()
	if summary.May(p) {
		t.Errorf("May(%v): true", p)
	}
	if b, e := summary.Encode(p); len(b) != 0 || e != api.ErrArg {
		t.Errorf("Encode(%v): %v, %d; want nothing, ErrArg", p, b, e)
	}
}

func wantDecode(t *testing.T, b []byte, want api.Part, wantErr api.Errno) {
	t.Helper()
	if p, e := summary.Decode(b); !same(p, want) || e != wantErr {
		t.Errorf("Decode(%v): %v, %d; want %v, %d", b, p, e, want, wantErr)
	}
}

func wantNoForm(t *testing.T, b []byte) {
	t.Helper()
	wantDecode(t, sealed(t, b), api.Part{}, api.ErrForm)
}

func wantWhole(t *testing.T, p api.Part, blocks [][]byte, want bool) {
	t.Helper()
	if got := summary.Whole(p, blocks); got != want {
		t.Errorf("Whole(%v, %v): %t", p, blocks, got)
	}
}

// valid parts: all limits of all numbers, some of them with each other, and some between them.
func valid() []api.Part {
	var l []api.Part
	for n := 1; n <= api.MaxEnts; n++ {
		l = append(l, partOf(ents(n)), api.Part{Seq: n, End: true, L: ents(n)})
	}
	for _, seq := range []int{1, 255, 256, 1<<31 - 1, 1 << 31, 1 << 32, 1<<47 + 1, maxSeq - 1, maxSeq} {
		for _, next := range []int{0, 1, 255, 256, 4096, maxNext - 1, maxNext} {
			l = append(l, api.Part{Seq: seq, Next: next, L: ents(1)}, api.Part{Seq: seq, Next: next, End: true, L: ents(2)})
		}
	}
	for kind := api.KindData; kind <= api.KindMap; kind++ {
		for _, ino := range []int{0, 1, 39, 40, 127, 128, 254, 255} {
			for _, index := range []int{0, 1, 255, 256, 32768, 65534, 65535} {
				for _, sum := range []uint32{0, 1, 1 << 31, 1<<32 - 1} {
					x := api.Ent{Kind: kind, Ino: ino, Index: index, Sum: sum}
					l = append(l, partOf([]api.Ent{x}), partOf(append(ents(12), x)), partOf([]api.Ent{x, x}))
				}
			}
		}
	}
	return l
}

// far numbers are outside every limit, some of them with bytes that would be within it.
func far() []int {
	return []int{minInt, minInt + 1, -1 << 48, -1<<32 + 1, -2, -1, 1 << 48, 1<<48 + 1, 1<<56 + 2, maxInt - 1, maxInt}
}

// with returns n entries, of which number i is x.
func with(n, i int, x api.Ent) []api.Ent {
	l := ents(n)
	l[i] = x
	return l
}

// wrongEnts lists entries with one number that is not as required.
func wrongEnts() []api.Ent {
	var l []api.Ent
	for _, n := range append(far(), 0, 5, 6, 255, 256, 257, 65537) {
		l = append(l, api.Ent{Kind: n, Ino: 3, Index: 300, Sum: 9})
	}
	for _, n := range append(far(), 256, 257, 511, 65536) {
		l = append(l, api.Ent{Kind: 1, Ino: n, Index: 300, Sum: 9})
	}
	for _, n := range append(far(), 65536, 65537, 1<<31-1, 1<<31, 1<<32) {
		l = append(l, api.Ent{Kind: 1, Ino: 3, Index: n, Sum: 9})
	}
	return l
}

// wrongParts lists parts with one thing that is not as required.
func wrongParts() []api.Part {
	l := []api.Part{{}, {Seq: 1}, {Seq: 1, Next: 7, End: true, L: []api.Ent{}}, {Seq: 1, L: make([]api.Ent, 1)}}
	for _, n := range append(far(), 0) {
		l = append(l, api.Part{Seq: n, Next: 33, L: ents(2)})
	}
	for _, n := range append(far(), maxNext+1, maxNext+2, 1<<32-1, 1<<32, 1<<32+1) {
		l = append(l, api.Part{Seq: 9, Next: n, L: ents(2)})
	}
	for _, n := range []int{14, 15, 255, 256, 257, 65537} {
		l = append(l, api.Part{Seq: 9, Next: 33, L: slices.Repeat(ents(1), n)})
	}
	for _, x := range wrongEnts() {
		l = append(l, partOf(with(1, 0, x)), partOf(with(3, 1, x)), partOf(with(13, 12, x)))
	}
	return l
}

func TestP6_1Example(t *testing.T) {
	p := api.Part{Seq: 9, Next: 33, End: true, L: []api.Ent{{Kind: api.KindData, Ino: 3, Index: 300, Sum: 0x01020304}}}
	b := wantValid(t, p)
	want := []byte{0x68, 0x73, 0x75, 0x6d, 0, 0, 0, 0, 0, 9, 0, 0, 0, 33, 1, 1, 1, 3, 1, 44, 1, 2, 3, 4, 0}
	if !bytes.HasPrefix(b, want) {
		t.Errorf("Encode(%v) is %v; want %v first", p, b, want)
	}
	wantDecode(t, b, p, api.OK)
	wantInvalid(t, api.Part{Seq: 1, End: true})
	wantDecode(t, make([]byte, api.Block), api.Part{}, api.ErrSum)
}

func TestP6_1OfEach(t *testing.T) {
	for _, p := range valid() {
		wantValid(t, p)
		wantDecode(t, sealed(t, plain(p)), p, api.OK)
	}
}

func TestP6_1Invalid(t *testing.T) {
	for _, p := range wrongParts() {
		wantInvalid(t, p)
	}
}

// TestP6_1InvalidSummaries seals what would be the summaries of parts that are not valid, as far as their numbers fit.
func TestP6_1InvalidSummaries(t *testing.T) {
	wantNoForm(t, summaryOf(api.Part{Seq: 0, Next: 33, L: ents(2)}, 2, 1))
	for _, next := range []int{1 << 31, 1<<31 + 33, 1<<32 - 1} {
		wantNoForm(t, summaryOf(api.Part{Seq: 9, Next: next, L: ents(2)}, 2, 1))
	}
	for kind := range 256 {
		if kind >= api.KindData && kind <= api.KindMap {
			continue
		}
		x := api.Ent{Kind: kind, Ino: 3, Index: 300, Sum: 9}
		wantNoForm(t, plain(partOf(with(1, 0, x))))
		wantNoForm(t, plain(partOf(with(3, 1, x))))
		wantNoForm(t, plain(partOf(with(13, 12, x))))
	}
	for end := 2; end < 256; end++ {
		wantNoForm(t, summaryOf(partOf(ents(3)), 3, byte(end)))
	}
}

// TestP6_1OtherCounts has summaries say that they have more or fewer entries than they have.
func TestP6_1OtherCounts(t *testing.T) {
	for n := range api.MaxEnts + 1 {
		for count := range 256 {
			if count != n || n == 0 {
				wantNoForm(t, summaryOf(partOf(ents(n)), byte(count), 0))
			}
		}
	}
	// the block's checksum would be that of an entry
	wantNoForm(t, append(summaryOf(partOf(ents(13)), 14, 0), 1, 3, 1, 44))
	wantNoForm(t, append(summaryOf(partOf(ents(13)), 255, 1), 1, 3, 1, 44))
}

// notSealed lists what is no sealed block, though a good block is at its beginning, or in it.
func notSealed(good []byte) [][]byte {
	l := [][]byte{nil, {}, good[:4], good[:headSize], good[:headSize+entSize], good[:127], good[1:], append(bytes.Clone(good), 0), append(bytes.Clone(good), good...), make([]byte, 124), make([]byte, 127), make([]byte, 128), bytes.Repeat([]byte{255}, 128)}
	for i := range good {
		b := bytes.Clone(good)
		b[i] ^= 1 << (i % 8)
		l = append(l, b)
	}
	return l
}

func TestP6_1NotSealed(t *testing.T) {
	for _, n := range []int{1, 2, api.MaxEnts} {
		for _, b := range notSealed(sealed(t, plain(partOf(ents(n))))) {
			wantDecode(t, b, api.Part{}, api.ErrSum)
		}
	}
	wantDecode(t, plain(api.Part{}), api.Part{}, api.ErrSum) // neither sealed nor a summary: the checksum is first
}

// TestP6_1OtherBlocks seals blocks that differ from a summary in one byte.
func TestP6_1OtherBlocks(t *testing.T) {
	for _, n := range []int{1, 2, 12, api.MaxEnts} {
		good := sealed(t, plain(partOf(ents(n))))
		for i := range 4 {
			for _, c := range []byte{0, good[i] - 1, good[i] + 1, good[i] ^ 0x20, good[i] ^ 0x80, 255} {
				wantDecode(t, changed(t, good, i, c), api.Part{}, api.ErrForm)
			}
		}
		for i := headSize + n*entSize; i < api.Block-4; i++ {
			wantDecode(t, changed(t, good, i, 1), api.Part{}, api.ErrForm)
			wantDecode(t, changed(t, good, i, 128), api.Part{}, api.ErrForm)
		}
	}
	wantNoForm(t, nil)
	wantNoForm(t, []byte("hsum"))
	wantNoForm(t, []byte("haym\x00\x0a\x00\x02\x02\x00\x03"))
	wantNoForm(t, append([]byte{0}, plain(partOf(ents(2)))...))
	wantNoForm(t, bytes.Repeat([]byte{255}, 124))
}

func TestP6_2Example(t *testing.T) {
	zeros := [][]byte{make([]byte, api.Block)}
	p, e := summary.Of(1, 0, true, []api.Ent{{Kind: api.KindData, Ino: 3, Index: 0}}, zeros)
	want := api.Part{Seq: 1, End: true, L: []api.Ent{{Kind: api.KindData, Ino: 3, Sum: sumOf(zeros[0])}}}
	if !same(p, want) || e != api.OK {
		t.Errorf("Of: %v, %d; want %v", p, e, want)
	}
	wantWhole(t, p, zeros, true)
}

func TestP6_2WholeOfEach(t *testing.T) {
	for n := 1; n <= api.MaxEnts; n++ {
		wantWhole(t, wholePart(contents(n)), contents(n), true)
	}
	for _, p := range valid() {
		blocks := contents(len(p.L))
		wantWhole(t, p, blocks, false) // none of these blocks has such a checksum
		for i := range p.L {
			p.L[i].Sum = sumOf(blocks[i])
		}
		wantWhole(t, p, blocks, true)
	}
	equal := [][]byte{content(5), content(5), content(5)}
	wantWhole(t, wholePart(equal), equal, true)
}

func TestP6_2OtherSums(t *testing.T) {
	blocks := contents(api.MaxEnts)
	for i := range blocks {
		for bit := range 32 {
			p := wholePart(blocks)
			p.L[i].Sum ^= 1 << bit
			wantWhole(t, p, blocks, false)
		}
	}
}

func TestP6_2OtherOrder(t *testing.T) {
	p := wholePart(contents(4))
	for i := range 4 {
		for j := range i {
			blocks := contents(4)
			blocks[i], blocks[j] = blocks[j], blocks[i]
			wantWhole(t, p, blocks, false)
		}
	}
}

func TestP6_2OtherNumberOfBlocks(t *testing.T) {
	for n := 1; n <= api.MaxEnts; n++ {
		for m := range api.MaxEnts + 3 {
			wantWhole(t, wholePart(contents(n)), contents(m), m == n)
			wantOf(t, partOf(ents(n)), contents(m), m == n)
		}
		wantWhole(t, wholePart(contents(n)), nil, false)
		wantOf(t, partOf(ents(n)), nil, false)
	}
	wantWhole(t, api.Part{}, nil, false)
	wantWhole(t, api.Part{Seq: 1}, [][]byte{}, false)
	wantOf(t, api.Part{Seq: 1, End: true}, nil, false)
	wantOf(t, api.Part{Seq: 1, End: true}, contents(1), false)
}

// TestP6_2OtherSizes has a part say the checksum of what is not a block.
func TestP6_2OtherSizes(t *testing.T) {
	for _, size := range []int{0, 1, 4, 124, 127, 129, 256, 1 << 20} {
		for i := range 3 {
			blocks := contents(3)
			blocks[i] = make([]byte, size)
			wantWhole(t, wholePart(blocks), blocks, false)
			wantOf(t, partOf(ents(3)), blocks, false)
		}
	}
	blocks := [][]byte{content(0)[:64], append(content(0)[64:], content(1)...)} // as many bytes as two blocks have
	wantWhole(t, wholePart(blocks), blocks, false)
	wantOf(t, partOf(ents(2)), blocks, false)
	wantWhole(t, wholePart([][]byte{nil}), [][]byte{nil}, false)
	wantOf(t, partOf(ents(1)), [][]byte{nil}, false)
}

func TestP6_2InvalidParts(t *testing.T) {
	for _, p := range wrongParts() {
		blocks := contents(len(p.L))
		for i := range p.L {
			p.L[i].Sum = sumOf(blocks[i])
		}
		wantWhole(t, p, blocks, false)
		wantOf(t, p, blocks, false)
	}
}

// wantOf has Of make a part with p's numbers and entries, and tells it to be possible or not.
func wantOf(t *testing.T, p api.Part, blocks [][]byte, may bool) {
	t.Helper()
	want, wantErr := api.Part{}, api.ErrArg
	if may {
		want, wantErr = copyOf(p), api.OK
		for i := range want.L {
			want.L[i].Sum = sumOf(blocks[i])
		}
	}
	if got, e := summary.Of(p.Seq, p.Next, p.End, p.L, blocks); !same(got, want) || e != wantErr {
		t.Errorf("Of(%v, %v): %v, %d; want %v, %d", p, blocks, got, e, want, wantErr)
	}
}

func TestP6_2OfEach(t *testing.T) {
	for _, p := range valid() {
		wantOf(t, p, contents(len(p.L)), true)
	}
	for _, sum := range []uint32{0, 1, sumOf(content(0)), 1<<32 - 1} {
		wantOf(t, partOf([]api.Ent{{Kind: 2, Ino: 3, Index: 4, Sum: sum}}), contents(1), true)
	}
}

func TestP6_3AsItWas(t *testing.T) {
	for _, p := range valid() {
		b, _ := summary.Encode(p)
		wantDecode(t, b, p, api.OK)
		blocks := contents(len(p.L))
		made, _ := summary.Of(p.Seq, p.Next, p.End, p.L, blocks)
		wantWhole(t, made, blocks, true)
		b, _ = summary.Encode(made)
		wantDecode(t, b, made, api.OK)
	}
}

// change changes consecutive bits from a bit on: those that pattern has, and both the first and the last one.
func change(b []byte, from, count int, pattern uint32) {
	for i := range count {
		if i == 0 || i == count-1 || pattern>>i&1 == 1 {
			b[(from+i)/8] ^= 1 << ((from + i) % 8)
		}
	}
}

func TestP6_3ChangedBits(t *testing.T) {
	blocks := [][]byte{content(1), make([]byte, api.Block), bytes.Repeat([]byte{255}, api.Block)}
	p, e := summary.Of(9, 33, true, ents(3), blocks)
	if e != api.OK || !summary.Whole(p, blocks) {
		t.Fatalf("Of: %v, %d", p, e)
	}
	for i, b := range blocks {
		for count := 1; count <= 32; count++ {
			for from := 0; from+count <= 8*api.Block; from++ {
				pattern := uint32(from*count) * 2654435761
				change(b, from, count, pattern)
				if summary.Whole(p, blocks) {
					t.Fatalf("block %d is whole with %d bits changed from %d on", i, count, from)
				}
				change(b, from, count, pattern)
			}
		}
	}
	wantWhole(t, p, blocks, true)
}

func TestArgumentsAreNotModified(t *testing.T) {
	p, blocks := wholePart(contents(3)), contents(3)
	b := wantValid(t, p)
	before := bytes.Clone(b)
	summary.Whole(p, blocks)
	summary.Decode(b)
	summary.Of(p.Seq, p.Next, p.End, p.L, blocks)
	if !same(p, wholePart(contents(3))) || !slices.EqualFunc(blocks, contents(3), bytes.Equal) || !bytes.Equal(b, before) {
		t.Error("an argument was modified")
	}
	l := ents(3) // their sums are not those of the blocks
	if _, e := summary.Of(9, 33, true, l, blocks); e != api.OK || !slices.Equal(l, ents(3)) {
		t.Errorf("Of has modified its entries: %v, %d", l, e)
	}
}

func TestArgumentsAreNotRetained(t *testing.T) {
	l, blocks := ents(3), contents(3)
	p, _ := summary.Of(9, 33, true, l, blocks)
	want := copyOf(p)
	clear(l)
	for _, b := range blocks {
		clear(b)
	}
	if !same(p, want) {
		t.Errorf("the result of Of has changed with its arguments: %v; want %v", p, want)
	}
	wantWhole(t, p, contents(3), true)
	b := wantValid(t, p)
	p, _ = summary.Decode(b)
	clear(b)
	if !same(p, want) {
		t.Errorf("the result of Decode has changed with its argument: %v; want %v", p, want)
	}
}

func TestResultsAreNewMemory(t *testing.T) {
	p, blocks := wholePart(contents(3)), contents(3)
	first, second := wantValid(t, p), wantValid(t, p)
	clear(first)
	wantDecode(t, second, p, api.OK)
	one, _ := summary.Decode(second)
	clear(one.L)
	wantDecode(t, second, p, api.OK)
	one, _ = summary.Of(p.Seq, p.Next, p.End, p.L, blocks)
	two, _ := summary.Of(p.Seq, p.Next, p.End, p.L, blocks)
	clear(one.L)
	if !same(two, p) {
		t.Errorf("two results of Of share memory: %v; want %v", two, p)
	}
	wantValid(t, p)
	wantWhole(t, p, blocks, true)
}
