package path_test

import (
	"slices"
	"strings"
	"testing"
	"unicode/utf8"
	"unsafe"

	"haymow/api"
	"haymow/path"
)

// isName tells names of another origin than the program's.
func isName(s string) bool {
	if !utf8.ValidString(s) || len(s) < 1 || len(s) > 24 || s == "." || s == ".." {
		return false
	}
	l := []rune(s)
	for _, r := range l {
		if r < 32 || r == 127 || r == '/' {
			return false
		}
	}
	return len(l) <= 16
}

// parse reads a path byte by byte.
func parse(s string) ([]string, api.Errno) {
	if s == "" || s[0] != '/' {
		return nil, api.ErrName
	}
	if len(s) > 200 {
		return nil, api.ErrBig
	}
	var l []string
	one := ""
	for i := 1; i <= len(s); i++ {
		if i < len(s) && s[i] != '/' {
			one += s[i : i+1]
			continue
		}
		switch {
		case one == "" || one == ".":
		case one == ".." && len(l) == 0:
		case one == "..":
			l = slices.Delete(l, len(l)-1, len(l))
		case !isName(one):
			return nil, api.ErrName
		case len(l) >= 8:
			return nil, api.ErrBig
		default:
			l = append(l, one)
		}
		one = ""
	}
	return l, api.OK
}

func join(l []string) (string, api.Errno) {
	s := ""
	for _, one := range l {
		if !isName(one) {
			return "", api.ErrName
		}
		s += "/" + one
	}
	switch {
	case len(l) > 8:
		return "", api.ErrBig
	case len(l) == 0:
		return "/", api.OK
	}
	return s, api.OK
}

func parent(s string) ([]string, string, api.Errno) {
	l, e := parse(s)
	if e != api.OK {
		return nil, "", e
	}
	if len(l) == 0 {
		return nil, "", api.ErrArg
	}
	return l[:len(l)-1], l[len(l)-1], api.OK
}

// under holds names against others one by one.
func under(l, top []string) bool {
	for i, one := range top {
		if i >= len(l) || l[i] != one {
			return false
		}
	}
	return len(l) != len(top)
}

// longest is a name of as many bytes as one may have.
var longest = strings.Repeat("\u20ac", 8)

func someNames() []string {
	return []string{"a", "b", " ", "...", "..a", ".a", "a.", "a..", "\\", "~", "\u0080", "\u00e9", "\ufffd", "\U0010ffff", "0123456789abcdef", longest, strings.Repeat("\U0001f600", 6)}
}

func otherNames() []string {
	return []string{"\x00", "a\x00", "\x1f", "\n", "\x7f", "a\x7f", "\xff", "a\xff", "\xe2\x82", "\xc0\xaf", "\xc0\xae", "\xed\xa0\x80", "\xf4\x90\x80\x80",
		strings.Repeat("a", 17), strings.Repeat(".", 17), longest + "a", strings.Repeat("\u00e9", 13), strings.Repeat("\U0001f600", 7), strings.Repeat("a", 150)}
}

// sequence returns the same numbers for the same seed.
func sequence(seed uint64) func(n int) int {
	return func(n int) int {
		seed = seed*6364136223846793005 + 1442695040888963407
		return int(seed >> 33 % uint64(n))
	}
}

func wantParse(t *testing.T, s string, want []string, wantErr api.Errno) {
	t.Helper()
	if l, e := path.Parse(s); !slices.Equal(l, want) || e != wantErr {
		t.Errorf("Parse(%.300q): %q, %d; want %q, %d", s, l, e, want, wantErr)
	}
}

func wantJoin(t *testing.T, l []string, want string, wantErr api.Errno) {
	t.Helper()
	before := slices.Clone(l)
	if s, e := path.Join(l); s != want || e != wantErr {
		t.Errorf("Join(%.300q): %q, %d; want %q, %d", l, s, e, want, wantErr)
	}
	if !slices.Equal(l, before) {
		t.Errorf("after Join: %q, before %q", l, before)
	}
}

func wantParent(t *testing.T, s string, want []string, wantLast string, wantErr api.Errno) {
	t.Helper()
	if l, last, e := path.Parent(s); !slices.Equal(l, want) || last != wantLast || e != wantErr {
		t.Errorf("Parent(%.300q): %q, %q, %d; want %q, %q, %d", s, l, last, e, want, wantLast, wantErr)
	}
}

// wantSame holds what the calls return for a path against what another reader returns.
func wantSame(t *testing.T, s string) {
	t.Helper()
	l, e := parse(s)
	wantParse(t, s, l, e)
	l, last, e := parent(s)
	wantParent(t, s, l, last, e)
}

func TestP11_Examples(t *testing.T) {
	wantParse(t, "/a//./b/../c", []string{"a", "c"}, api.OK)
	wantParse(t, "a", nil, api.ErrName)
	wantParent(t, "/a/b", []string{"a"}, "b", api.OK)
	wantParent(t, "/", nil, "", api.ErrArg)
}

func TestP11_1_Parse(t *testing.T) {
	for _, s := range []string{"/", "//", "///", "/.", "/./", "/..", "/../..", "/../", "/a/..", "/a/../..", "/a/b/../..", "/./../."} {
		wantParse(t, s, nil, api.OK)
	}
	for _, s := range []string{"/a", "//a", "/a/", "/a//", "/./a/.", "/../a", "/b/../a", "/../../a", "/a/b/..", "/a/b/../", "/a/b/c/../..", "/b/../../a"} {
		wantParse(t, s, []string{"a"}, api.OK)
	}
	wantParse(t, "/a/b", []string{"a", "b"}, api.OK)
	wantParse(t, "/a/a", []string{"a", "a"}, api.OK)
	wantParse(t, "/.../..a/.a/a.", []string{"...", "..a", ".a", "a."}, api.OK)
	wantParse(t, "/ /\\", []string{" ", "\\"}, api.OK)
	for _, s := range []string{"", "a", ".", "..", "a/", "a/b", " /", "./a", "../a", "\\a", "\x00", "\xff/", "\u2215a"} {
		wantParse(t, s, nil, api.ErrName)
	}
}

func TestP11_1_ParseAllShort(t *testing.T) {
	pieces := []string{"/", ".", "a", "\x1f", "\u00e9"}
	last := []string{""}
	for n := range 8 {
		var next []string
		for _, s := range last {
			for _, c := range pieces {
				wantSame(t, s+c)
				if n < 7 {
					next = append(next, s+c)
				}
			}
		}
		last = next
	}
}

func TestP11_1_ParseNames(t *testing.T) {
	for _, one := range someNames() {
		wantParse(t, "/"+one, []string{one}, api.OK)
		wantParse(t, "/"+one+"/", []string{one}, api.OK)
		wantParse(t, "/a/"+one+"/b", []string{"a", one, "b"}, api.OK)
		wantParse(t, "/a/"+one+"/..", []string{"a"}, api.OK)
	}
	for _, one := range otherNames() {
		wantParse(t, "/"+one, nil, api.ErrName)
		wantParse(t, "/"+one+"/", nil, api.ErrName)
		wantParse(t, "/a/"+one+"/b", nil, api.ErrName)
		// It has to be a name even if it is removed again.
		wantParse(t, "/a/"+one+"/..", nil, api.ErrName)
		wantParse(t, "/"+one+"/../a", nil, api.ErrName)
	}
}

func TestP11_1_ParseDepth(t *testing.T) {
	eight := []string{"a", "b", "c", "d", "e", "f", "g", "h"}
	wantParse(t, "/a/b/c/d/e/f/g/h", eight, api.OK)
	wantParse(t, "/a/b/c/d/e/f/g/h/", eight, api.OK)
	wantParse(t, "/a/b/c/d/e/f/g/h/.//.", eight, api.OK)
	wantParse(t, "/a/b/c/d/e/f/g/h/..", eight[:7], api.OK)
	wantParse(t, "/a/b/c/d/e/f/g/x/../h", eight, api.OK)
	wantParse(t, "/x/../a/b/c/d/e/f/g/h", eight, api.OK)
	wantParse(t, "/../../a/b/c/d/e/f/g/h", eight, api.OK)
	for _, s := range []string{"/a/b/c/d/e/f/g/h/i", "/a/b/c/d/e/f/g/h/i/..", "/a/b/c/d/e/f/g/h/./i", "/../a/b/c/d/e/f/g/h/i/../..", strings.Repeat("/a", 9), strings.Repeat("/a", 100)} {
		wantParse(t, s, nil, api.ErrBig)
	}
	for n := range 100 {
		wantSame(t, strings.Repeat("/a", n))
		wantSame(t, strings.Repeat("/a", n%12)+strings.Repeat("/..", n/12)+strings.Repeat("/b", n%5))
	}
}

func TestP11_1_ParseFirstFault(t *testing.T) {
	eight := strings.Repeat("/a", 8)
	for _, one := range otherNames() {
		wantParse(t, eight+"/"+one, nil, api.ErrName)
		wantParse(t, eight+"/"+one+"/b", nil, api.ErrName)
		wantParse(t, eight+"/b/"+one, nil, api.ErrBig)
		wantParse(t, "/"+one+eight+"/b", nil, api.ErrName)
		wantParse(t, eight+"/../b/../"+one, nil, api.ErrName)
	}
}

func TestP11_1_ParseLength(t *testing.T) {
	full := slices.Repeat([]string{longest}, 8)
	wantParse(t, strings.Repeat("/"+longest, 8), full, api.OK)
	wantParse(t, strings.Repeat("/"+longest, 8)+"/", nil, api.ErrBig)
	wantParse(t, strings.Repeat("/", 200), nil, api.OK)
	wantParse(t, strings.Repeat("/", 201), nil, api.ErrBig)
	for n := 190; n < 300; n++ {
		for _, s := range []string{strings.Repeat("/", n), strings.Repeat("/.", n/2) + strings.Repeat("/", n%2), "/a" + strings.Repeat("/", n-2), strings.Repeat("/", n-1) + "a", "/" + strings.Repeat("a", n-1), "/\x00" + strings.Repeat("/", n-2), strings.Repeat("/a", n/2)} {
			wantSame(t, s)
			if n > 200 {
				wantParse(t, s, nil, api.ErrBig)
				// Without the slash in front, that is told first.
				wantParse(t, "a"+s, nil, api.ErrName)
			}
		}
	}
	for _, n := range []int{255, 256, 257, 456, 1 << 16, 1<<16 + 100, 1 << 22} {
		wantParse(t, strings.Repeat("/", n), nil, api.ErrBig)
		wantParse(t, "/"+strings.Repeat("a", n), nil, api.ErrBig)
		wantParse(t, strings.Repeat("a/", n/2), nil, api.ErrName)
	}
}

func TestP11_1_ParseLong(t *testing.T) {
	number := sequence(11)
	pieces := []string{"/", "/", "//", "/.", "/..", "/..", "/a", "/b", "/" + longest, "/\u00e9", "/a.", "/...", "/c", "/d"}
	for range 20000 {
		s := ""
		for range number(30) {
			s += pieces[number(len(pieces))]
		}
		wantSame(t, s)
		if number(20) == 0 && s != "" {
			i := number(len(s))
			wantSame(t, s[i:])
			wantSame(t, s[:i]+"\x7f"+s[i:])
		}
	}
}

func TestP11_2_Join(t *testing.T) {
	wantJoin(t, nil, "/", api.OK)
	wantJoin(t, []string{}, "/", api.OK)
	wantJoin(t, []string{"a"}, "/a", api.OK)
	wantJoin(t, []string{"a", "b"}, "/a/b", api.OK)
	wantJoin(t, slices.Repeat([]string{longest}, 8), strings.Repeat("/"+longest, 8), api.OK)
	for _, one := range someNames() {
		wantJoin(t, []string{one}, "/"+one, api.OK)
		wantJoin(t, []string{"a", one, "b"}, "/a/"+one+"/b", api.OK)
	}
	for n := range 20 {
		l := slices.Repeat([]string{"a"}, n)
		want, wantErr := join(l)
		wantJoin(t, l, want, wantErr)
		if (wantErr == api.ErrBig) != (n > 8) {
			t.Errorf("of %d names: %d", n, wantErr)
		}
	}
	for _, n := range []int{255, 256, 257, 264, 1 << 16, 1<<16 + 1} {
		wantJoin(t, slices.Repeat([]string{"a"}, n), "", api.ErrBig)
	}
}

func TestP11_2_JoinOthers(t *testing.T) {
	for _, one := range append(otherNames(), "", ".", "..", "/", "/a", "a/", "a/b", "//") {
		wantJoin(t, []string{one}, "", api.ErrName)
		for n := range 12 {
			for i := range n {
				l := slices.Repeat([]string{"a"}, n)
				l[i] = one
				// Even if there are too many, the name is told first.
				wantJoin(t, l, "", api.ErrName)
			}
		}
		wantJoin(t, append(slices.Repeat([]string{"a"}, 1<<16), one), "", api.ErrName)
	}
}

func TestP11_2_Parent(t *testing.T) {
	wantParent(t, "/a", nil, "a", api.OK)
	wantParent(t, "/a/", nil, "a", api.OK)
	wantParent(t, "/a/b/c", []string{"a", "b"}, "c", api.OK)
	wantParent(t, "/a/b/..", nil, "a", api.OK)
	wantParent(t, "/a/b/../c/.", []string{"a"}, "c", api.OK)
	wantParent(t, strings.Repeat("/"+longest, 8), slices.Repeat([]string{longest}, 7), longest, api.OK)
	for _, s := range []string{"/", "//", "/.", "/..", "/a/..", "/a/../..", "/a/b/../../.", strings.Repeat("/", 200)} {
		wantParent(t, s, nil, "", api.ErrArg)
	}
	for _, s := range []string{"", "a", "a/b", ".", "..", "a" + strings.Repeat("/", 200), "/a/\x00", "/\x00/..", "/" + strings.Repeat("a", 17)} {
		wantParent(t, s, nil, "", api.ErrName)
	}
	for _, s := range []string{strings.Repeat("/", 201), strings.Repeat("/a", 9), strings.Repeat("/a", 9) + strings.Repeat("/..", 9), strings.Repeat("/"+longest, 8) + "/"} {
		wantParent(t, s, nil, "", api.ErrBig)
	}
}

func TestP11_2_Under(t *testing.T) {
	words := []string{"a", "b", "", "..", "\xff", "ab"}
	lists := [][]string{nil, {}}
	for _, a := range words {
		lists = append(lists, []string{a})
		for _, b := range words {
			lists = append(lists, []string{a, b}, []string{a, b, "a"}, []string{a, b, ""}, append(slices.Repeat([]string{a}, 9), b))
		}
	}
	for _, l := range lists {
		for _, top := range lists {
			lBefore, topBefore := slices.Clone(l), slices.Clone(top)
			if got := path.Under(l, top); got != under(l, top) {
				t.Errorf("Under(%q, %q): %v", l, top, got)
			}
			if !slices.Equal(l, lBefore) || !slices.Equal(top, topBefore) {
				t.Errorf("after Under: %q, %q; before %q, %q", l, top, lBefore, topBefore)
			}
		}
		if path.Under(l, l) {
			t.Errorf("Under(%q) of itself", l)
		}
	}
	if path.Under(nil, nil) || path.Under(nil, []string{"a"}) || !path.Under([]string{"a"}, nil) || !path.Under([]string{"a", "b"}, []string{"a"}) || path.Under([]string{"a", "b"}, []string{"b"}) {
		t.Error("Under")
	}
	long := slices.Repeat([]string{"a"}, 1<<16)
	if path.Under(long[1:], long) || !path.Under(long, long[1:]) || path.Under(append(slices.Clone(long), "b"), append(long[1:], "b")) {
		t.Error("Under of long lists")
	}
}

func TestP11_3_ParsesWhatIsJoined(t *testing.T) {
	number := sequence(3)
	names := someNames()
	for n := range 2000 {
		var l []string
		for range n % 9 {
			l = append(l, names[number(len(names))])
		}
		s, e := path.Join(l)
		if e != api.OK {
			t.Fatalf("Join(%q): %d", l, e)
		}
		wantParse(t, s, l, api.OK)
	}
}

func TestP11_3_Inserted(t *testing.T) {
	number := sequence(5)
	words := []string{"a", "b", "..", "..", "\u00e9", "...", "c"}
	between := []string{"/", "/", "//", "/./", "///", "/.//"}
	for range 20000 {
		plain, longer := "", ""
		for range 1 + number(10) {
			one := words[number(len(words))]
			plain += "/" + one
			longer += between[number(len(between))] + one
		}
		l, e := path.Parse(plain)
		wantParse(t, longer, l, e)
	}
}

// A result that shared bytes with the argument would change with it.
func TestR3_NewMemory(t *testing.T) {
	b := []byte("/a/bc/../d")
	s := unsafe.String(&b[0], len(b))
	l, _ := path.Parse(s)
	m, last, _ := path.Parent(s)
	clear(b)
	if !slices.Equal(l, []string{"a", "d"}) {
		t.Errorf("Parse: %q", l)
	}
	if !slices.Equal(m, []string{"a"}) || last != "d" {
		t.Errorf("Parent: %q, %q", m, last)
	}
	for n := range 3 {
		names := [][]byte{[]byte("xy"), []byte("z")}
		var list []string
		for _, name := range names[:n] {
			list = append(list, unsafe.String(&name[0], len(name)))
		}
		want, _ := join(list)
		got, e := path.Join(list)
		for _, name := range names {
			clear(name)
		}
		if got != want || e != api.OK {
			t.Errorf("Join: %q, %d; want %q", got, e, want)
		}
	}
	first, _ := path.Parse("/a/b/..")
	second, _ := path.Parse("/a/b/..")
	first[0] = "changed"
	if !slices.Equal(second, []string{"a"}) {
		t.Errorf("Parse again: %q", second)
	}
}
