package entry_test

import (
	"bytes"
	"slices"
	"strings"
	"testing"
	"unicode/utf8"
	"unsafe"

	"haymow/api"
	"haymow/entry"
)

const (
	maxInt = int(^uint(0) >> 1)
	minInt = -maxInt - 1
)

// isName tells names of another origin than the program's.
func isName(s string) bool {
	if !utf8.ValidString(s) || len(s) < 1 || len(s) > 24 || s == "." || s == ".." {
		return false
	}
	l := []rune(s)
	for _, r := range l {
		if r < 32 || r == 127 || r == '/' {
			return false
		}
	}
	return len(l) <= 16
}

func hasNumbers(x api.Entry) bool {
	return x.Ino > 0 && x.Ino < 40 && (x.Type == 1 || x.Type == 2)
}

func isValid(l []api.Entry) bool {
	if len(l) > 30 {
		return false
	}
	for i, x := range l {
		if !isName(x.Name) || !hasNumbers(x) || i > 0 && slices.Compare([]rune(l[i-1].Name), []rune(x.Name)) >= 0 {
			return false
		}
	}
	return true
}

// bytesOf lays entries out byte by byte, whatever they are.
func bytesOf(l ...api.Entry) []byte {
	var b []byte
	for _, x := range l {
		b = append(b, byte(x.Ino), byte(x.Type), byte(len(x.Name)))
		b = append(b, x.Name...)
	}
	return b
}

// entriesOf reads bytes one by one; false: they are not exactly entries, valid or not.
func entriesOf(b []byte) ([]api.Entry, bool) {
	var l []api.Entry
	for i := 0; i < len(b); {
		x := api.Entry{Ino: int(b[i])}
		if i++; i == len(b) {
			return nil, false
		}
		x.Type = int(b[i])
		if i++; i == len(b) {
			return nil, false
		}
		n := int(b[i])
		i++
		for range n {
			if i == len(b) {
				return nil, false
			}
			x.Name += string(b[i : i+1])
			i++
		}
		l = append(l, x)
	}
	return l, true
}

func at(l []api.Entry, name string) int {
	return slices.IndexFunc(l, func(x api.Entry) bool { return x.Name == name })
}

func find(l []api.Entry, name string) (api.Entry, api.Errno) {
	switch i := at(l, name); {
	case !isValid(l):
		return api.Entry{}, api.ErrArg
	case !isName(name):
		return api.Entry{}, api.ErrName
	case i < 0:
		return api.Entry{}, api.ErrNone
	default:
		return l[i], api.OK
	}
}

func add(l []api.Entry, x api.Entry) ([]api.Entry, api.Errno) {
	switch {
	case !isValid(l):
		return nil, api.ErrArg
	case !isName(x.Name):
		return nil, api.ErrName
	case !hasNumbers(x):
		return nil, api.ErrArg
	case at(l, x.Name) >= 0:
		return nil, api.ErrThere
	case len(l) == 30:
		return nil, api.ErrFull
	}
	out := append(slices.Clone(l), x)
	slices.SortFunc(out, func(a, b api.Entry) int { return slices.Compare([]rune(a.Name), []rune(b.Name)) })
	return out, api.OK
}

func take(l []api.Entry, name string) ([]api.Entry, api.Errno) {
	if _, e := find(l, name); e != api.OK {
		return nil, e
	}
	return slices.DeleteFunc(slices.Clone(l), func(x api.Entry) bool { return x.Name == name }), api.OK
}

// someNames returns names in order, with runes of all lengths; the last ones come in another order in UTF-16.
func someNames() []string {
	return []string{" ", "!", "+", "...", "0", "A", "B", "Z", "Za", "a", "a ", "aa", "aaaaaaaaaaaaaaaa", "ab", "b", "ba", "z", "~", "\u0080", "\u00e9", "\u00e9a", "\u00e9\u00e9",
		"\u07ff", "\u0800", strings.Repeat("\u20ac", 8), "\ud7ff", "\ue000", "\ufffd", "\uffff", "\U00010000", "\U0001f600", strings.Repeat("\U0010ffff", 6)}
}

func otherNames() []string {
	return []string{"", ".", "..", "/", "a/", "/a", "a/b", "\x00", "a\x00", "\x1f", "\n", "\x7f", "a\x7f", "\xff", "a\xff", "\xe2\x82", "\xc0\xaf", "\xed\xa0\x80", "\xf4\x90\x80\x80",
		strings.Repeat("a", 17), strings.Repeat("\u20ac", 9), strings.Repeat("\u00e9", 13), "a" + strings.Repeat("\U0001f600", 6), strings.Repeat("a", 1<<10)}
}

// some returns n entries in order, whose numbers differ.
func some(n int) []api.Entry {
	var l []api.Entry
	for i, s := range someNames()[:n] {
		l = append(l, api.Entry{Name: s, Ino: 39 - i, Type: 1 + i%2})
	}
	return l
}

// wrongNumbers returns entries whose Ino or Type is not as required; some would be, if they were cut to fewer bits.
func wrongNumbers(name string) []api.Entry {
	var l []api.Entry
	for _, n := range []int{minInt, -1 << 32, -256, -255, -1, 0, 40, 41, 255, 256, 257, 258, 1<<16 + 1, 1<<31 + 1, 1<<32 + 1, maxInt} {
		l = append(l, api.Entry{Name: name, Ino: n, Type: 1}, api.Entry{Name: name, Ino: n, Type: 2}, api.Entry{Name: name, Ino: n, Type: n})
	}
	for _, n := range []int{minInt, -1 << 32, -255, -254, -2, -1, 0, 3, 4, 255, 256, 257, 258, 1<<16 + 1, 1<<32 + 1, 1<<32 + 2, maxInt} {
		l = append(l, api.Entry{Name: name, Ino: 1, Type: n}, api.Entry{Name: name, Ino: 39, Type: n}, api.Entry{Name: name, Ino: 0, Type: n})
	}
	return l
}

// replaced returns entries with another one at i.
func replaced(l []api.Entry, i int, x api.Entry) []api.Entry {
	l = slices.Clone(l)
	l[i] = x
	return l
}

// someLists returns lists of entries, valid ones and others.
func someLists() [][]api.Entry {
	lists := [][]api.Entry{nil, {}, some(1), some(2), some(3), some(29), some(30), some(31), some(32), {{}}, {{Name: "a"}}, {{Ino: 1, Type: 1}}}
	for _, n := range []int{1, 2, 3, 30} {
		l := some(n)
		for i := range n {
			for _, s := range otherNames() {
				lists = append(lists, replaced(l, i, api.Entry{Name: s, Ino: 1, Type: 1}))
			}
			for _, x := range wrongNumbers(l[i].Name) {
				lists = append(lists, replaced(l, i, x))
			}
			for j := range i {
				twice := replaced(l, i, l[j])
				lists = append(lists, twice, replaced(twice, j, l[i]))
			}
		}
	}
	return lists
}

func wantList(t *testing.T, call string, l []api.Entry, e api.Errno, want []api.Entry, wantErr api.Errno) {
	t.Helper()
	if !slices.Equal(l, want) || e != wantErr {
		t.Errorf("%s: %v, %d; want %v, %d", call, l, e, want, wantErr)
	}
}

func wantFind(t *testing.T, l []api.Entry, name string, want api.Entry, wantErr api.Errno) {
	t.Helper()
	if x, e := entry.Find(l, name); x != want || e != wantErr {
		t.Errorf("Find(%v, %.40q): %v, %d; want %v, %d", l, name, x, e, want, wantErr)
	}
}

func wantAdd(t *testing.T, l []api.Entry, x api.Entry, want []api.Entry, wantErr api.Errno) {
	t.Helper()
	before := slices.Clone(l)
	m, e := entry.Add(l, x)
	wantList(t, "Add of "+x.Name, m, e, want, wantErr)
	wantList(t, "after Add of "+x.Name, l, 0, before, 0)
}

func wantTake(t *testing.T, l []api.Entry, name string, want []api.Entry, wantErr api.Errno) {
	t.Helper()
	before := slices.Clone(l)
	m, e := entry.Take(l, name)
	wantList(t, "Take of "+name, m, e, want, wantErr)
	wantList(t, "after Take of "+name, l, 0, before, 0)
}

func wantDecode(t *testing.T, b []byte, want []api.Entry, wantErr api.Errno) {
	t.Helper()
	if l, e := entry.Decode(b); !slices.Equal(l, want) || e != wantErr {
		t.Errorf("Decode(%.300q): %v, %d; want %v, %d", b, l, e, want, wantErr)
	}
}

// wantRead decodes bytes, and holds the result against what they are by another reader.
func wantRead(t *testing.T, b []byte) {
	t.Helper()
	if l, ok := entriesOf(b); ok && isValid(l) {
		wantDecode(t, b, l, api.OK)
	} else {
		wantDecode(t, b, nil, api.ErrForm)
	}
}

func TestP10_Examples(t *testing.T) {
	l := []api.Entry{{Name: "a", Ino: 5, Type: api.TypeFile}}
	if b, e := entry.Encode(l); e != api.OK || !bytes.Equal(b, []byte{5, 1, 1, 0x61}) {
		t.Errorf("Encode: %v, %d", b, e)
	}
	wantAdd(t, l, api.Entry{Name: "a", Ino: 6, Type: api.TypeDir}, nil, api.ErrThere)
	wantTake(t, l, "b", nil, api.ErrNone)
}

func TestP10_1_May(t *testing.T) {
	valid := 0
	for _, l := range someLists() {
		if got := entry.May(l); got != isValid(l) {
			t.Errorf("May(%v): %v", l, got)
		} else if got {
			valid++
		}
	}
	if valid < 7 {
		t.Errorf("only %d are valid", valid)
	}
	for n := range 33 {
		if got := entry.May(some(min(n, 32))); got != (n <= 30) {
			t.Errorf("May of %d entries: %v", n, got)
		}
	}
	if entry.May(make([]api.Entry, 1<<16)) {
		t.Error("May of very many entries")
	}
}

func TestP10_1_MayLimits(t *testing.T) {
	for n := -3; n < 300; n++ {
		if got := entry.May([]api.Entry{{Name: "a", Ino: n, Type: 1}}); got != (n >= 1 && n <= 39) {
			t.Errorf("May with Ino %d: %v", n, got)
		}
		if got := entry.May([]api.Entry{{Name: "a", Ino: 1, Type: n}}); got != (n == 1 || n == 2) {
			t.Errorf("May with Type %d: %v", n, got)
		}
	}
	for _, s := range someNames() {
		if !entry.May([]api.Entry{{Name: s, Ino: 1, Type: 2}}) {
			t.Errorf("May with %q: false", s)
		}
	}
	for _, s := range otherNames() {
		if entry.May([]api.Entry{{Name: s, Ino: 1, Type: 2}}) {
			t.Errorf("May with %.40q: true", s)
		}
	}
	// Two entries may have the same number.
	if !entry.May([]api.Entry{{Name: "a", Ino: 7, Type: 1}, {Name: "b", Ino: 7, Type: 1}}) {
		t.Error("May with a number twice: false")
	}
}

func TestP10_1_MayOrder(t *testing.T) {
	for i, a := range someNames() {
		for j, b := range someNames() {
			if got := entry.May([]api.Entry{{Name: a, Ino: 1, Type: 1}, {Name: b, Ino: 2, Type: 2}}); got != (i < j) {
				t.Errorf("May with %q, %q: %v", a, b, got)
			}
		}
	}
}

func TestP10_1_Encode(t *testing.T) {
	for _, l := range someLists() {
		want, wantErr := bytesOf(l...), api.OK
		if !isValid(l) {
			want, wantErr = nil, api.ErrArg
		}
		if b, e := entry.Encode(l); !bytes.Equal(b, want) || e != wantErr {
			t.Errorf("Encode(%v): %q, %d; want %q, %d", l, b, e, want, wantErr)
		}
	}
	l := []api.Entry{{Name: "Az", Ino: 39, Type: 2}, {Name: strings.Repeat("\u20ac", 8), Ino: 1, Type: 1}}
	want := "\x27\x02\x02Az" + "\x01\x01\x18" + strings.Repeat("\xe2\x82\xac", 8)
	if b, e := entry.Encode(l); string(b) != want || e != api.OK {
		t.Errorf("Encode: %q, %d", b, e)
	}
}

func TestP10_1_Decode(t *testing.T) {
	wantDecode(t, nil, nil, api.OK)
	wantDecode(t, []byte{}, nil, api.OK)
	wantDecode(t, []byte("\x05\x01\x01a"), []api.Entry{{Name: "a", Ino: 5, Type: 1}}, api.OK)
	wantDecode(t, []byte("\x27\x02\x02Az\x01\x01\x03\u20ac"), []api.Entry{{Name: "Az", Ino: 39, Type: 2}, {Name: "\u20ac", Ino: 1, Type: 1}}, api.OK)
	for _, s := range []string{"\x05", "\x05\x01", "\x05\x01\x01", "\x05\x01\x00", "\x05\x01\x02a", "\x05\x01\xffa", "\x05\x01\x01ab", "\x05\x01\x01a\x00", "\x05\x01\x01a\x00\x00\x00",
		"\x00\x01\x01a", "\x28\x01\x01a", "\xff\x01\x01a", "\x05\x00\x01a", "\x05\x03\x01a", "\x05\xff\x01a", "\x05\x01\x01/", "\x05\x01\x01.", "\x05\x01\x02..", "\x05\x01\x01\xff",
		"\x05\x01\x01a\x06\x01\x01a", "\x05\x01\x01b\x06\x01\x01a", "\x05\x01\x02ab\x06\x01\x01a", "\x00", "\x00\x00\x00"} {
		wantDecode(t, []byte(s), nil, api.ErrForm)
	}
	for _, l := range someLists() {
		// Other numbers than bytes can have cannot be laid out.
		if slices.ContainsFunc(l, func(x api.Entry) bool { return x.Ino|x.Type|len(x.Name) != int(byte(x.Ino|x.Type|len(x.Name))) }) {
			continue
		}
		if isValid(l) {
			wantDecode(t, bytesOf(l...), l, api.OK)
		} else {
			wantDecode(t, bytesOf(l...), nil, api.ErrForm)
		}
	}
}

func TestP10_1_DecodeCutAndLonger(t *testing.T) {
	l := some(30)
	b := bytesOf(l...)
	for n := range len(b) + 1 {
		wantRead(t, b[:n])
	}
	for n := range 31 {
		wantDecode(t, bytesOf(l[:n]...), l[:n], api.OK)
	}
	for i := range 256 {
		wantRead(t, append(slices.Clone(b), byte(i)))
		wantRead(t, append([]byte{byte(i)}, b...))
		wantRead(t, append(bytesOf(l[:1]...), byte(i)))
	}
	more := bytesOf(some(31)...)
	wantDecode(t, more, nil, api.ErrForm)
	for _, c := range []byte{0, 1, 'a', 255} {
		wantDecode(t, bytes.Repeat([]byte{c}, 1<<20), nil, api.ErrForm)
	}
	wantDecode(t, bytes.Repeat([]byte("\x05\x01\x01a"), 1<<18), nil, api.ErrForm)
}

func TestP10_1_DecodeChanged(t *testing.T) {
	b := bytesOf(some(24)...)
	for i := range b {
		for c := range 256 {
			changed := slices.Clone(b)
			changed[i] = byte(c)
			wantRead(t, changed)
		}
	}
}

func TestP10_1_DecodeAllShort(t *testing.T) {
	all := []byte{0, 1, 2, 3, 24, 25, 39, 40, 255, '.', '/', 'a', 127, 0xc3, 0xa9}
	last := [][]byte{nil}
	for n := range 5 {
		var next [][]byte
		for _, b := range last {
			for _, c := range all {
				longer := append(slices.Clone(b), c)
				wantRead(t, longer)
				if n < 4 {
					next = append(next, longer)
				}
			}
		}
		last = next
	}
}

func TestP10_1_DecodeLimitsOfNames(t *testing.T) {
	for n := range 256 {
		for _, s := range []string{strings.Repeat("a", n), strings.Repeat("\u00e9", n/2), strings.Repeat("\u20ac", n/3), strings.Repeat("a", n%2) + strings.Repeat("\u00e9", n/2)} {
			wantRead(t, bytesOf(api.Entry{Name: s, Ino: 1, Type: 1}))
		}
	}
}

// What is given, by any of the functions, that is not valid is told before anything else.
func TestP10_1_InvalidFirst(t *testing.T) {
	for _, l := range someLists() {
		if isValid(l) {
			continue
		}
		for _, s := range []string{"a", "b", "", "/", "\ufffd"} {
			wantFind(t, l, s, api.Entry{}, api.ErrArg)
			wantTake(t, l, s, nil, api.ErrArg)
			wantAdd(t, l, api.Entry{Name: s, Ino: 1, Type: 1}, nil, api.ErrArg)
			wantAdd(t, l, api.Entry{Name: s}, nil, api.ErrArg)
		}
	}
}

func TestP10_2_Find(t *testing.T) {
	for n := range 31 {
		l := some(n)
		for i, s := range someNames() {
			if i < n {
				wantFind(t, l, s, l[i], api.OK)
			} else {
				wantFind(t, l, s, api.Entry{}, api.ErrNone)
			}
		}
		for _, s := range otherNames() {
			wantFind(t, l, s, api.Entry{}, api.ErrName)
		}
		// Neither a beginning nor a continuation of a name, nor one in another case, is that name.
		for _, s := range []string{"aaa", "abc", "\u00e9aa", "A ", "zA", "za", "\u00c9", "e\u0301", "~~", "\U0010ffff"} {
			wantFind(t, l, s, api.Entry{}, api.ErrNone)
		}
	}
}

func TestP10_2_Add(t *testing.T) {
	for i, s := range someNames()[:30] {
		full := some(30)
		x := api.Entry{Name: s, Ino: 1 + i, Type: 2 - i%2}
		rest := slices.Delete(slices.Clone(full), i, i+1)
		wantAdd(t, rest, x, replaced(full, i, x), api.OK)
		wantAdd(t, full, x, nil, api.ErrThere)
	}
	wantAdd(t, nil, api.Entry{Name: "a", Ino: 1, Type: 2}, []api.Entry{{Name: "a", Ino: 1, Type: 2}}, api.OK)
	// Another name may have the same number.
	wantAdd(t, []api.Entry{{Name: "b", Ino: 7, Type: 1}}, api.Entry{Name: "a", Ino: 7, Type: 1}, []api.Entry{{Name: "a", Ino: 7, Type: 1}, {Name: "b", Ino: 7, Type: 1}}, api.OK)
}

func TestP10_2_AddErrors(t *testing.T) {
	for _, n := range []int{0, 1, 2, 29, 30} {
		l := some(n)
		for _, s := range otherNames() {
			wantAdd(t, l, api.Entry{Name: s, Ino: 1, Type: 1}, nil, api.ErrName)
			wantAdd(t, l, api.Entry{Name: s}, nil, api.ErrName)
			wantAdd(t, l, api.Entry{Name: s, Ino: 40, Type: 3}, nil, api.ErrName)
		}
		for _, s := range someNames() {
			for _, x := range wrongNumbers(s) {
				wantAdd(t, l, x, nil, api.ErrArg)
			}
		}
	}
	full := some(30)
	for _, s := range []string{"\U0010ffff", "aaa", "!!", "\u00ea"} {
		wantAdd(t, full, api.Entry{Name: s, Ino: 1, Type: 1}, nil, api.ErrFull)
		wantAdd(t, full, api.Entry{Name: s, Ino: 1}, nil, api.ErrArg)
	}
	last := api.Entry{Name: "\U0001f601", Ino: 1, Type: 1}
	wantAdd(t, some(29), last, append(some(29), last), api.OK)
}

func TestP10_2_Take(t *testing.T) {
	for n := range 31 {
		l := some(n)
		for i, s := range someNames() {
			if i < n {
				wantTake(t, l, s, slices.Delete(slices.Clone(l), i, i+1), api.OK)
			} else {
				wantTake(t, l, s, nil, api.ErrNone)
			}
		}
		for _, s := range otherNames() {
			wantTake(t, l, s, nil, api.ErrName)
		}
	}
}

func TestP10_3_DecodedAsItWas(t *testing.T) {
	lists := someLists()
	for mask := range 1 << 10 {
		var l []api.Entry
		for i, x := range some(10) {
			if mask>>i&1 == 1 {
				l = append(l, x)
			}
		}
		lists = append(lists, l)
	}
	for _, l := range lists {
		if b, e := entry.Encode(l); e == api.OK {
			wantDecode(t, b, l, api.OK)
		}
	}
}

// What is decoded is encoded as it was, too: no list has two encodings.
func TestP10_3_EncodedAsItWas(t *testing.T) {
	b := bytesOf(some(6)...)
	for i := range b {
		for c := range 256 {
			changed := slices.Clone(b)
			changed[i] = byte(c)
			l, e := entry.Decode(changed)
			if e != api.OK {
				continue
			}
			if again, e := entry.Encode(l); e != api.OK || !bytes.Equal(again, changed) {
				t.Errorf("Encode(%v): %q, %d; want %q", l, again, e, changed)
			}
		}
	}
}

func TestP10_3_AddAndTake(t *testing.T) {
	for n := range 30 {
		l := some(n)
		for i, s := range someNames()[n:] {
			x := api.Entry{Name: s, Ino: 1 + i, Type: 1 + i%2}
			m, e := entry.Add(l, x)
			if e != api.OK {
				t.Fatalf("Add(%v, %v): %d", l, x, e)
			}
			wantFind(t, m, s, x, api.OK)
			for _, y := range l {
				wantFind(t, m, y.Name, y, api.OK)
			}
			wantTake(t, m, s, l, api.OK)
		}
	}
}

// Many calls one after the other answer as plain ones, which sort, and look at one entry after the other.
func TestP10_3_ManyCalls(t *testing.T) {
	names := append(append(someNames(), "c", "d", "e", "f", "g", "h", "\u00ea", "\u4e00"), otherNames()[:4]...)
	var l []api.Entry
	word, most := uint32(1), 0
	draw := func(n int) int {
		word = word*1664525 + 1013904223
		return int(word>>16) % n
	}
	for range 20000 {
		x := api.Entry{Name: names[draw(len(names))], Ino: draw(42), Type: draw(3)}
		want, wantErr := find(l, x.Name)
		wantFind(t, l, x.Name, want, wantErr)
		call, other := entry.Add, add
		if draw(3) == 0 {
			call = func(l []api.Entry, x api.Entry) ([]api.Entry, api.Errno) { return entry.Take(l, x.Name) }
			other = func(l []api.Entry, x api.Entry) ([]api.Entry, api.Errno) { return take(l, x.Name) }
		}
		m, e := call(l, x)
		wantM, wantE := other(l, x)
		wantList(t, "call with "+x.Name, m, e, wantM, wantE)
		if wantE == api.OK {
			l = wantM
			most = max(most, len(l))
		}
	}
	if most != 30 {
		t.Errorf("only %d entries at most", most)
	}
}

// A caller may change what it gave, and what it got, after the call.
func TestP10_NewMemory(t *testing.T) {
	spare := append(make([]api.Entry, 0, 99), some(5)...)
	added, _ := entry.Add(spare, api.Entry{Name: "zz", Ino: 1, Type: 1})
	inner, _ := entry.Add(spare, api.Entry{Name: "\"", Ino: 1, Type: 1})
	taken, _ := entry.Take(spare, spare[0].Name)
	end, _ := entry.Take(spare, spare[4].Name)
	wantList(t, "entries after calls", spare, 0, some(5), 0)
	if x := spare[:6][5]; x != (api.Entry{}) {
		t.Errorf("behind the entries: %v", x)
	}
	lists := [][]api.Entry{spare, added, inner, taken, end}
	for i, l := range lists {
		for j := range l {
			l[j] = api.Entry{Name: "changed", Ino: i + 1}
		}
	}
	for i, l := range lists {
		for _, x := range l {
			if x.Ino != i+1 {
				t.Errorf("lists %d and %d share memory", i, x.Ino-1)
			}
		}
	}
	b := bytesOf(some(3)...)
	l, _ := entry.Decode(b)
	clear(b)
	wantList(t, "entries whose encoding has changed", l, 0, some(3), 0)
}

// A caller may have made a name of bytes that it changes after the call.
func TestP10_NewMemoryOfNames(t *testing.T) {
	b := []byte("abcdef")
	part := func(i int) string { return unsafe.String(&b[i], 1) }
	l := []api.Entry{{Name: part(0), Ino: 1, Type: 1}, {Name: part(1), Ino: 2, Type: 1}, {Name: part(3), Ino: 3, Type: 1}}
	found, _ := entry.Find(l, part(0))
	added, _ := entry.Add(l, api.Entry{Name: part(2), Ino: 4, Type: 1})
	taken, _ := entry.Take(l, part(1))
	encoded, _ := entry.Encode(l)
	if string(b) != "abcdef" {
		t.Errorf("changed to %q", b)
	}
	clear(b)
	if found.Name != "a" {
		t.Errorf("Find: %q", found.Name)
	}
	wantList(t, "Add", added, 0, []api.Entry{{Name: "a", Ino: 1, Type: 1}, {Name: "b", Ino: 2, Type: 1}, {Name: "c", Ino: 4, Type: 1}, {Name: "d", Ino: 3, Type: 1}}, 0)
	wantList(t, "Take", taken, 0, []api.Entry{{Name: "a", Ino: 1, Type: 1}, {Name: "d", Ino: 3, Type: 1}}, 0)
	if string(encoded) != "\x01\x01\x01a\x02\x01\x01b\x03\x01\x01d" {
		t.Errorf("Encode: %q", encoded)
	}
}
