package title_test

import (
	"strings"
	"testing"
	"unsafe"

	"haymow/title"
)

const (
	maxInt  = int(^uint(0) >> 1)
	minInt  = -maxInt - 1
	maxRune = 0x10ffff
)

// encode returns a number's bytes in UTF-8, for all numbers below 2^21: the shortest form, or one that is longer (of that many bytes).
func encode(n, length int) string {
	switch length {
	case 1:
		return string([]byte{byte(n)})
	case 2:
		return string([]byte{byte(0xc0 | n>>6), byte(0x80 | n&63)})
	case 3:
		return string([]byte{byte(0xe0 | n>>12), byte(0x80 | n>>6&63), byte(0x80 | n&63)})
	default:
		return string([]byte{byte(0xf0 | n>>18), byte(0x80 | n>>12&63), byte(0x80 | n>>6&63), byte(0x80 | n&63)})
	}
}

// shortest returns how many bytes the shortest form of a code point has.
func shortest(n int) int {
	switch {
	case n < 0x80:
		return 1
	case n < 0x800:
		return 2
	case n < 0x10000:
		return 3
	default:
		return 4
	}
}

func text(n int) string { return encode(n, shortest(n)) }

func surrogate(n int) bool { return n >= 0xd800 && n <= 0xdfff }

// piece is a rune (its number) or a stray (-1) and its bytes.
type piece struct {
	n     int
	bytes string
}

// first returns what s begins with.
func first(s string) piece {
	for length := 1; length <= 4 && length <= len(s); length++ {
		n := 0
		switch length {
		case 1:
			n = int(s[0])
		case 2:
			n = int(s[0]&0x1f)<<6 | int(s[1]&63)
		case 3:
			n = int(s[0]&0x0f)<<12 | int(s[1]&63)<<6 | int(s[2]&63)
		case 4:
			n = int(s[0]&0x07)<<18 | int(s[1]&63)<<12 | int(s[2]&63)<<6 | int(s[3]&63)
		}
		if n <= maxRune && !surrogate(n) && shortest(n) == length && text(n) == s[:length] {
			return piece{n, s[:length]}
		}
	}
	return piece{-1, s[:1]}
}

func pieces(s string) []piece {
	var l []piece
	for s != "" {
		p := first(s)
		l = append(l, p)
		s = s[len(p.bytes):]
	}
	return l
}

func count(s string) (int, int) {
	runes, strays := 0, 0
	for _, p := range pieces(s) {
		if p.n < 0 {
			strays++
		} else {
			runes++
		}
	}
	return runes, strays
}

func isName(s string) bool {
	runes, strays := count(s)
	if strays > 0 || runes > 16 || len(s) < 1 || len(s) > 24 || s == "." || s == ".." {
		return false
	}
	for _, p := range pieces(s) {
		if p.n < 32 || p.n == 127 || p.n == 47 {
			return false
		}
	}
	return true
}

func head(s string, n int) string {
	out := ""
	for i, p := range pieces(s) {
		if i < n {
			out += p.bytes
		}
	}
	return out
}

// before returns the order of two lists of numbers.
func before(a, b []int) int {
	for i := 0; i < len(a) && i < len(b); i++ {
		switch {
		case a[i] < b[i]:
			return -1
		case a[i] > b[i]:
			return 1
		}
	}
	switch {
	case len(a) < len(b):
		return -1
	case len(a) > len(b):
		return 1
	}
	return 0
}

func numbers(s string) []int {
	var l []int
	for _, p := range pieces(s) {
		l = append(l, p.n)
	}
	return l
}

func octets(s string) []int {
	var l []int
	for i := range len(s) {
		l = append(l, int(s[i]))
	}
	return l
}

// known is a text with its runes and its bytes.
type known struct {
	s             string
	runes, octets []int
	whole         bool
}

func know(s string) known {
	_, strays := count(s)
	return known{s, numbers(s), octets(s), strays == 0}
}

func order(a, b known) int {
	if a.whole && b.whole {
		return before(a.runes, b.runes)
	}
	return before(a.octets, b.octets)
}

func fit(s string) string {
	cut := func(s string) string {
		out, n := "", 0
		for _, p := range pieces(s) {
			if p.n < 32 || p.n == 127 || p.n == 47 {
				continue
			}
			if n+1 > 16 || len(out+p.bytes) > 24 {
				break
			}
			out += p.bytes
			n++
		}
		return out
	}
	out := cut(s)
	if isName(out) {
		return out
	}
	return cut("x" + out)
}

func fold(s string) string {
	l := []byte(s)
	for i := range l {
		if l[i] >= 'A' && l[i] <= 'Z' {
			l[i] += 32
		}
	}
	return string(l)
}

// brokenTexts returns texts that are not well formed.
func brokenTexts() []string {
	l := []string{"\x80", "\xbf", "\xc0", "\xc1", "\xc2", "\xdf", "\xe0", "\xed", "\xef", "\xf0", "\xf4", "\xf5", "\xfe", "\xff",
		"\xc0\x80", "\xc0\xaf", "\xc1\x81", "\xc1\xbf", "\xe0\x80\xaf", "\xe0\x9f\xbf", "\xe0\x81\x81", "\xf0\x80\x80\xaf", "\xf0\x8f\xbf\xbf",
		"\xed\xa0\x80", "\xed\xaf\xbf", "\xed\xb0\x80", "\xed\xbf\xbf", "\xed\xa0\x80\xed\xb0\x80",
		"\xf4\x90\x80\x80", "\xf5\x80\x80\x80", "\xf7\xbf\xbf\xbf", "\xf8\x88\x80\x80\x80", "\xfc\x84\x80\x80\x80\x80",
		"\xe2\x82", "\xe2\x82a", "a\xe2\x82", "\xf0\x9f\x98", "\xf0\x9f\x98\xe2\x82\xac", "\xe2\xe2\x82\xac", "\xe2\x82\xac\xac", "\xc3\xc3\xa9", "\xc3\xa9\xa9",
		"\xe2/\x82\xac", "\xc3\xff\xa9", "a\xff\u00e9", "\xff\ufffd", "\ufffd\xff", "\xef\xbf", "\xef\xbf\xbd\xbd", "\xef\xef\xbf\xbd"}
	return l
}

// someTexts returns texts of all kinds, most of them short.
func someTexts() []string {
	l := []string{"", ".", "..", "...", "....", ". ", " .", ".a", "a.", "..a", "a..", "./", "/.", "../", "/..", "./.", "/", "//", "a/b", "/a", "a/", "\u00e9/", "\u00e9",
		".\xff", "..\xff", "\xff..", ".\xff.", "...\xff", ".\x00", ".\x00.", "\x7f", "\x00", "\x1f", " ", "~", "\u0080", "\u009f", "\u00a0", "\u2028", "\ufeff", "\ufffd", "\ufffe", "\uffff",
		"AbZ\u00c9", "@[`{", "AZaz", "\u212a\u0130\u0131\u00df", "x", "xx", "x.", "x..", "a\x00b\x1fc\x7fd/e\xfff", "a b", "*?:\\\"<>|"}
	for _, p := range []string{"a", "\u00e9", "\u20ac", "\U0001f600", ".", "/", "\x00", "\xff", "\xe2\x82", "a\u00e9", "\u20aca", "\U0001f600\u20ac", "/a", "\xffa", "\x7f\u20ac", "A\u00c9"} {
		for n := range 40 {
			l = append(l, strings.Repeat(p, n))
		}
	}
	l = append(l, brokenTexts()...)
	// Runes on both sides of each change of length, and of all that names may not have.
	for _, n := range []int{0, 31, 32, 45, 46, 47, 48, 126, 127, 128, 0x7ff, 0x800, 0xd7ff, 0xe000, 0xfffc, 0xfffd, 0xfffe, 0xffff, 0x10000, maxRune} {
		l = append(l, text(n), text(n)+"a", "a"+text(n), text(n)+text(n), text(n)+"\xff", "\xff"+text(n))
	}
	return l
}

// mixed calls do with texts that consist of so many runes of 1, 2, 3 and 4 bytes, around both limits of names.
func mixed(do func(s string)) {
	for a := range 26 {
		for b := range 14 {
			for c := range 10 {
				for d := range 8 {
					if a+2*b+3*c+4*d > 30 {
						continue
					}
					l := []string{strings.Repeat("a", a), strings.Repeat("\u00e9", b), strings.Repeat("\u20ac", c), strings.Repeat("\U0001f600", d)}
					do(l[0] + l[1] + l[2] + l[3])
					do(l[3] + l[2] + l[1] + l[0])
				}
			}
		}
	}
}

// sequences calls do with all texts of up to 4 of these bytes, which are limits of what UTF-8 allows.
func sequences(do func(s string)) {
	all := "a/\x7f\x80\x8f\x90\x9f\xa0\xbf\xc1\xc2\xe0\xe2\xed\xef\xf0\xf4\xf5"
	last := []string{""}
	for n := range 4 {
		var next []string
		for _, s := range last {
			for i := range len(all) {
				t := s + all[i:i+1]
				do(t)
				if n < 3 {
					next = append(next, t)
				}
			}
		}
		last = next
	}
}

func TestP9_1_Examples(t *testing.T) {
	if title.Is("\u00e9/") || !title.Is("\u00e9") || title.Is("..") {
		t.Error("example 1")
	}
	if runes, strays := title.Count("a\xff\u00e9"); runes != 2 || strays != 1 {
		t.Errorf("example 2: %d, %d", runes, strays)
	}
}

func TestP9_1_Is(t *testing.T) {
	for _, s := range someTexts() {
		if got := title.Is(s); got != isName(s) {
			t.Errorf("Is(%q): %v", s, got)
		}
	}
	mixed(func(s string) {
		if got := title.Is(s); got != isName(s) {
			t.Errorf("Is(%q): %v", s, got)
		}
	})
}

func TestP9_1_IsLimits(t *testing.T) {
	names := []string{"a", " ", "~", "...", ".a", "a.", "..a", " .", "\ufffd", "\u0080", strings.Repeat("z", 16), strings.Repeat(".", 16), strings.Repeat("\u20ac", 8), strings.Repeat("\u00e9", 12),
		strings.Repeat("\U0001f600", 6), strings.Repeat("a", 8) + strings.Repeat("\u00e9", 8), "\U0010ffff", "\ud7ff", "\ue000"}
	for _, s := range names {
		if !title.Is(s) {
			t.Errorf("Is(%q) is false", s)
		}
	}
	others := []string{"", ".", "..", "/", "a/", "/a", "a/b", "\x00", "a\x00", "\x1fa", "\n", "\x7f", "a\x7f", "\xff", "a\xff", "\xed\xa0\x80", "\xc0\xaf", "\xc0\xae", "\xe2\x82",
		strings.Repeat("z", 17), strings.Repeat("z", 25), strings.Repeat("\u20ac", 9), strings.Repeat("\u00e9", 12) + "a", "a" + strings.Repeat("\u20ac", 8),
		strings.Repeat("\U0001f600", 6) + "a", strings.Repeat("a", 9) + strings.Repeat("\u00e9", 8), strings.Repeat("a", 1<<16), strings.Repeat("\xff", 1<<16), "a" + strings.Repeat("/", 1<<16)}
	for _, s := range others {
		if title.Is(s) {
			t.Errorf("Is(%.40q) is true", s)
		}
	}
}

func TestP9_1_AllRunes(t *testing.T) {
	for n := range 1 << 21 {
		s := text(n)
		good := n <= maxRune && !surrogate(n)
		runes, strays := title.Count(s)
		if good && (runes != 1 || strays != 0) || !good && (runes != 0 || strays != len(s)) {
			t.Fatalf("Count(%q): %d, %d", s, runes, strays)
		}
		allowed := good && n >= 32 && n != 127 && n != '/'
		if title.Is("a"+s) != allowed || title.Is(s+"a") != allowed || title.Is(s) != (allowed && n != '.') {
			t.Fatalf("Is with %q", s)
		}
		// Longer forms than the shortest one are strays.
		for length := shortest(n) + 1; length <= 4; length++ {
			s := encode(n, length)
			if runes, strays := title.Count(s); runes != 0 || strays != length {
				t.Fatalf("Count(%q): %d, %d", s, runes, strays)
			}
			if title.Is("a" + s) {
				t.Fatalf("Is with %q", s)
			}
		}
	}
}

func TestP9_1_Count(t *testing.T) {
	check := func(s string) {
		runes, strays := title.Count(s)
		if a, b := count(s); runes != a || strays != b {
			t.Errorf("Count(%q): %d, %d", s, runes, strays)
		}
	}
	for _, s := range someTexts() {
		check(s)
	}
	sequences(check)
	long := strings.Repeat("a\xff\u00e9\xe2\x82", 1<<14)
	if runes, strays := title.Count(long); runes != 2<<14 || strays != 3<<14 {
		t.Errorf("Count of a long text: %d, %d", runes, strays)
	}
}

func TestP9_2_Head(t *testing.T) {
	if s := title.Head("a\xff\u00e9b", 3); s != "a\xff\u00e9" {
		t.Errorf("Head: %q", s)
	}
	counts := []int{minInt, minInt + 1, -1 << 32, -1<<32 + 1, -1 << 31, -2, -1, 0, 1, 2, 3, 4, 5, 15, 16, 17, 24, 39, 40, 41, 1 << 31, 1 << 32, 1<<32 + 1, maxInt - 1, maxInt}
	for _, s := range someTexts() {
		for _, n := range counts {
			if got := title.Head(s, n); got != head(s, n) {
				t.Errorf("Head(%q, %d): %q", s, n, got)
			}
		}
	}
	sequences(func(s string) {
		for n := range 4 {
			if got := title.Head(s, n); got != head(s, n) {
				t.Errorf("Head(%q, %d): %q", s, n, got)
			}
		}
	})
}

func TestP9_2_Order(t *testing.T) {
	var all []known
	for _, s := range someTexts() {
		all = append(all, know(s))
	}
	for _, a := range all {
		for _, b := range all {
			if got := title.Order(a.s, b.s); got != order(a, b) {
				t.Errorf("Order(%q, %q): %d", a.s, b.s, got)
			}
		}
	}
}

func TestP9_2_OrderOfRunes(t *testing.T) {
	last := text(0)
	for n := 1; n <= maxRune; n++ {
		if surrogate(n) {
			continue
		}
		s := text(n)
		if title.Order(last, s) != -1 || title.Order(s, last) != 1 || title.Order(s, s) != 0 || title.Order(last+"a", s) != -1 || title.Order(s, last+"\U0010ffff") != 1 {
			t.Fatalf("Order of %q and %q", last, s)
		}
		last = s
	}
}

func TestP9_2_OrderOfStrays(t *testing.T) {
	for _, x := range []struct {
		a, b string
		want int
	}{{"\xff", "\ufffd", 1}, {"\xef", "\ufffd", -1}, {"\xed\xa0\x80", "\ue000", -1}, {"\xed\xa0\x80", "\ud7ff", 1}, {"\xc0\x80", "\x7f", 1}, {"\xc0\x80", "\u0080", -1},
		{"\xf4\x90\x80\x80", "\U0010ffff", 1}, {"\x80", "\u0080", -1}, {"\xfe", "\xff", -1}, {"\xff", "\xff", 0}, {"\xff", "\xffa", -1}, {"a\xff", "b", -1}, {"", "\x80", -1}} {
		if got := title.Order(x.a, x.b); got != x.want {
			t.Errorf("Order(%q, %q): %d", x.a, x.b, got)
		}
		if got := title.Order(x.b, x.a); got != -x.want {
			t.Errorf("Order(%q, %q): %d", x.b, x.a, got)
		}
	}
}

func TestP9_3_Fold(t *testing.T) {
	if s := title.Fold("AbZ\u00c9"); s != "abz\u00c9" {
		t.Errorf("Fold: %q", s)
	}
	for i := range 256 {
		for j := range 256 {
			s := string([]byte{byte(i), byte(j)})
			if got := title.Fold(s); got != fold(s) {
				t.Errorf("Fold(%q): %q", s, got)
			}
		}
	}
	for _, s := range someTexts() {
		if got := title.Fold(s); got != fold(s) {
			t.Errorf("Fold(%q): %q", s, got)
		}
	}
}

func TestP9_3_FitExamples(t *testing.T) {
	for s, want := range map[string]string{"": "x", "a/b": "ab", ".": "x.", "..": "x..", "...": "...", "/./": "x.", ".\xff.": "x..", ".\x00/.": "x..", "\xff\xffq": "q", "\xff": "x", "/": "x", "\x00\x1f\x7f": "x",
		"\u00e9": "\u00e9", "\ufffd\xff": "\ufffd", "\xe2/\x82\xac": "x", "\xc3\xffA\xa9": "A", strings.Repeat("\u20ac", 10): strings.Repeat("\u20ac", 8),
		strings.Repeat("a", 17): strings.Repeat("a", 16), strings.Repeat("/a", 17): strings.Repeat("a", 16), strings.Repeat("\u20ac", 7) + "ab\u00e9c": strings.Repeat("\u20ac", 7) + "ab",
		strings.Repeat("\u20ac", 7) + "aa\U0001f600b": strings.Repeat("\u20ac", 7) + "aa", strings.Repeat("\u20ac", 7) + "aa\xff/b": strings.Repeat("\u20ac", 7) + "aab",
		strings.Repeat(".", 17): strings.Repeat(".", 16), strings.Repeat("/", 1<<16) + "..": "x..", strings.Repeat("\xff", 1<<16) + "a": "a"} {
		if got := title.Fit(s); got != want {
			t.Errorf("Fit(%.60q): %q", s, got)
		}
	}
}

func TestP9_3_Fit(t *testing.T) {
	check := func(s string) {
		if got := title.Fit(s); got != fit(s) {
			t.Errorf("Fit(%q): %q", s, got)
		}
	}
	all := someTexts()
	for _, a := range all {
		check(a)
	}
	for i, a := range all {
		for _, b := range all[i%7:] {
			if len(a)+len(b) < 60 {
				check(a + b)
			}
		}
	}
	mixed(check)
	sequences(check)
}

func TestP9_4_FitIsName(t *testing.T) {
	names := 0
	check := func(s string) {
		got := title.Fit(s)
		if !title.Is(got) || !isName(got) {
			t.Errorf("Fit(%q) is no name: %q", s, got)
		}
		if title.Is(s) {
			names++
			if got != s {
				t.Errorf("Fit(%q): %q", s, got)
			}
		}
	}
	for _, s := range someTexts() {
		check(s)
	}
	mixed(check)
	sequences(check)
	if names == 0 {
		t.Error("none is a name")
	}
}

func TestP9_4_HeadsAreWellFormed(t *testing.T) {
	check := func(s string) {
		runes, strays := title.Count(s)
		if strays > 0 {
			return
		}
		for n := -1; n <= runes+1; n++ {
			h := title.Head(s, n)
			if a, b := title.Count(h); b != 0 || a != min(max(n, 0), runes) || !strings.HasPrefix(s, h) {
				t.Errorf("Head(%q, %d): %q", s, n, h)
			}
		}
	}
	for _, s := range someTexts() {
		check(s)
	}
	mixed(check)
}

// A caller may have made a text of bytes that it changes after the call.
func TestP9_NewMemory(t *testing.T) {
	for _, call := range []func(s string) string{
		func(s string) string { return title.Head(s, 3) }, func(s string) string { return title.Head(s, 99) }, title.Fold, title.Fit} {
		l := []byte("abcdef")
		got := call(unsafe.String(&l[0], len(l)))
		want := strings.Clone(got)
		if string(l) != "abcdef" {
			t.Errorf("changed to %q", l)
		}
		for i := range l {
			l[i] = 'z'
		}
		if got != want {
			t.Errorf("%q became %q", want, got)
		}
	}
}
