package addr_test

import (
	"testing"

	"haymow/addr"
	"haymow/api"
)

const (
	maxInt = int(^uint(0) >> 1)
	minInt = -maxInt - 1
)

// example is the geometry of the chapter's examples.
var example = api.Geo{Disk: 10, Lines: 2, Vols: 2, Segs: 3}

// valid geometries: both limits of each number, and one between them, with those of the others.
func valid() []api.Geo {
	l := []api.Geo{example}
	for _, disk := range []int{8, 9, 256} {
		for _, lines := range []int{1, disk - 6} {
			for _, vols := range []int{0, 1, 8} {
				for _, segs := range []int{1, 17, 256} {
					l = append(l, api.Geo{Disk: disk, Lines: lines, Vols: vols, Segs: segs})
				}
			}
		}
	}
	return l
}

// invalid geometries: each number just outside its limits, and as far outside as an int gets.
func invalid() []api.Geo {
	far := []int{minInt, minInt + 1, minInt + 5, minInt + 6, minInt + 7, -1 << 32, -257, -1, 257, 1 << 16, 1<<32 + 8, maxInt - 1, maxInt}
	l := []api.Geo{{}, {Disk: 8, Lines: 3, Vols: 2, Segs: 3}, {Disk: 256, Lines: 251, Vols: 2, Segs: 3}}
	for _, n := range append(far, 0, 1, 5, 6, 7) {
		for _, lines := range []int{minInt, -1, 0, 1, 2, n, maxInt} {
			l = append(l, api.Geo{Disk: n, Lines: lines, Vols: 2, Segs: 3})
		}
	}
	for _, n := range append(far, 0, 5, 10) {
		l = append(l, api.Geo{Disk: 10, Lines: n, Vols: 2, Segs: 3})
	}
	for _, n := range append(far, -2, 9, 10) {
		l = append(l, api.Geo{Disk: 10, Lines: 2, Vols: n, Segs: 3})
	}
	for _, n := range append(far, 0, -2) {
		for _, vols := range []int{0, 1, 8} {
			l = append(l, api.Geo{Disk: 10, Lines: 2, Vols: vols, Segs: n})
		}
	}
	return l
}

// places lists all places in the order of their addresses, by counting alone.
func places(g api.Geo) []api.Place {
	var l []api.Place
	add := func(vol, segs int) {
		for seg := range segs {
			for off := range 16 {
				l = append(l, api.Place{Vol: vol, Seg: seg, Off: off})
			}
		}
	}
	add(-1, g.Disk)
	for vol := range g.Vols {
		add(vol, g.Segs)
	}
	return l
}

func wantOf(t *testing.T, g api.Geo, p api.Place, want int, wantErr api.Errno) {
	t.Helper()
	if a, e := addr.Of(g, p); a != want || e != wantErr {
		t.Fatalf("Of(%v, %v): %d, error %d; want %d, error %d", g, p, a, e, want, wantErr)
	}
}

func wantWhere(t *testing.T, g api.Geo, a int, want api.Place, wantErr api.Errno) {
	t.Helper()
	if p, e := addr.Where(g, a); p != want || e != wantErr {
		t.Fatalf("Where(%v, %d): %v, error %d; want %v, error %d", g, a, p, e, want, wantErr)
	}
}

func wantSegment(t *testing.T, g api.Geo, a, want int, wantErr api.Errno) {
	t.Helper()
	if seg, e := addr.Segment(g, a); seg != want || e != wantErr {
		t.Fatalf("Segment(%v, %d): %d, error %d; want %d, error %d", g, a, seg, e, want, wantErr)
	}
}

func wantFirst(t *testing.T, g api.Geo, seg, want int, wantErr api.Errno) {
	t.Helper()
	if a, e := addr.First(g, seg); a != want || e != wantErr {
		t.Fatalf("First(%v, %d): %d, error %d; want %d, error %d", g, seg, a, e, want, wantErr)
	}
}

func wantTier(t *testing.T, g api.Geo, a, want int) {
	t.Helper()
	if got := addr.Tier(g, a); got != want {
		t.Fatalf("Tier(%v, %d): %d, want %d", g, a, got, want)
	}
}

// outside are numbers that are none of 0 to n - 1, some of which would be if they wrapped around.
func outside(n int) []int {
	return []int{n, n + 1, n + 16, 1 << 31, 1 << 32, 1<<32 + 1, 1 << 60, 1<<60 + 1, maxInt - 15, maxInt - 1, maxInt,
		-1, -2, -16, -17, -1 << 31, -1 << 32, -1 << 60, minInt, minInt + 1, minInt + 16}
}

func TestP3_1May(t *testing.T) {
	for _, g := range valid() {
		if !addr.May(g) {
			t.Errorf("May(%v): false", g)
		}
	}
	for _, g := range invalid() {
		if addr.May(g) {
			t.Errorf("May(%v): true", g)
		}
	}
}

// Of each number, all values around its limits, with the others in the middle of theirs.
func TestP3_1MayEachValue(t *testing.T) {
	for n := -300; n <= 600; n++ {
		for _, c := range []struct {
			g    api.Geo
			want bool
		}{
			{api.Geo{Disk: n, Lines: 1, Vols: 2, Segs: 3}, n >= 8 && n <= 256},
			{api.Geo{Disk: n, Lines: 100, Vols: 2, Segs: 3}, n >= 106 && n <= 256},
			{api.Geo{Disk: n, Lines: n - 6, Vols: 2, Segs: 3}, n >= 8 && n <= 256},
			{api.Geo{Disk: n, Lines: n - 5, Vols: 2, Segs: 3}, false},
			{api.Geo{Disk: 8, Lines: n, Vols: 2, Segs: 3}, n == 1 || n == 2},
			{api.Geo{Disk: 256, Lines: n, Vols: 2, Segs: 3}, n >= 1 && n <= 250},
			{api.Geo{Disk: 10, Lines: 2, Vols: n, Segs: 3}, n >= 0 && n <= 8},
			{api.Geo{Disk: 10, Lines: 2, Vols: 2, Segs: n}, n >= 1 && n <= 256},
			{api.Geo{Disk: 10, Lines: 2, Vols: 0, Segs: n}, n >= 1 && n <= 256},
		} {
			if got := addr.May(c.g); got != c.want {
				t.Errorf("May(%v): %t", c.g, got)
			}
		}
	}
}

func TestP3_1Counts(t *testing.T) {
	for _, c := range []struct {
		g            api.Geo
		segs, blocks int
	}{
		{example, 16, 256},
		{api.Geo{Disk: 8, Lines: 1, Vols: 0, Segs: 1}, 8, 128},
		{api.Geo{Disk: 8, Lines: 2, Vols: 0, Segs: 256}, 8, 128},
		{api.Geo{Disk: 8, Lines: 2, Vols: 1, Segs: 1}, 9, 144},
		{api.Geo{Disk: 256, Lines: 250, Vols: 8, Segs: 256}, 2304, 36864},
	} {
		if segs, blocks := addr.Segments(c.g), addr.Blocks(c.g); segs != c.segs || blocks != c.blocks {
			t.Errorf("%v: %d segments and %d blocks, want %d and %d", c.g, segs, blocks, c.segs, c.blocks)
		}
	}
	for _, g := range valid() {
		segs := g.Disk
		for range g.Vols {
			segs += g.Segs
		}
		if addr.Segments(g) != segs || addr.Blocks(g) != 16*segs {
			t.Errorf("%v: %d segments and %d blocks, want %d and %d", g, addr.Segments(g), addr.Blocks(g), segs, 16*segs)
		}
	}
}

// That a geometry is not valid counts before anything that is wrong with the other argument.
func TestP3_1InvalidGeometry(t *testing.T) {
	for _, g := range invalid() {
		if segs, blocks := addr.Segments(g), addr.Blocks(g); segs != 0 || blocks != 0 {
			t.Fatalf("%v: %d segments and %d blocks, want none", g, segs, blocks)
		}
		for _, n := range []int{minInt, -2, -1, 0, 1, 2, 16, 17, 300, maxInt} {
			for _, p := range []api.Place{{Vol: -1, Seg: n}, {Vol: n}, {Off: n}, {Vol: n, Seg: n, Off: n}} {
				wantOf(t, g, p, 0, api.ErrArg)
			}
			wantWhere(t, g, n, api.Place{}, api.ErrArg)
			wantSegment(t, g, n, 0, api.ErrArg)
			wantFirst(t, g, n, 0, api.ErrArg)
			wantTier(t, g, n, -1)
		}
	}
}

func TestP3_2Examples(t *testing.T) {
	for _, c := range []struct {
		p    api.Place
		want int
	}{
		{api.Place{Vol: -1, Seg: 0, Off: 0}, 1},
		{api.Place{Vol: -1, Seg: 0, Off: 15}, 16},
		{api.Place{Vol: -1, Seg: 1, Off: 0}, 17},
		{api.Place{Vol: -1, Seg: 9, Off: 15}, 160},
		{api.Place{Vol: 0, Seg: 0, Off: 0}, 161},
		{api.Place{Vol: 0, Seg: 2, Off: 15}, 208},
		{api.Place{Vol: 1, Seg: 0, Off: 0}, 209},
		{api.Place{Vol: 1, Seg: 2, Off: 15}, 256},
	} {
		wantOf(t, example, c.p, c.want, api.OK)
		wantWhere(t, example, c.want, c.p, api.OK)
	}
}

func TestP3_2NoSuchPlace(t *testing.T) {
	for _, g := range valid() {
		for vol := -1; vol < g.Vols; vol++ {
			segs := g.Segs
			if vol == -1 {
				segs = g.Disk
			}
			for _, n := range outside(segs) {
				wantOf(t, g, api.Place{Vol: vol, Seg: n}, 0, api.ErrRange)
				wantOf(t, g, api.Place{Vol: vol, Seg: n, Off: 15}, 0, api.ErrRange)
			}
			for _, n := range outside(16) {
				wantOf(t, g, api.Place{Vol: vol, Off: n}, 0, api.ErrRange)
				wantOf(t, g, api.Place{Vol: vol, Seg: segs - 1, Off: n}, 0, api.ErrRange)
			}
		}
		for _, n := range outside(g.Vols) {
			if n != -1 {
				wantOf(t, g, api.Place{Vol: n}, 0, api.ErrRange)
				wantOf(t, g, api.Place{Vol: n, Seg: 1, Off: 15}, 0, api.ErrRange)
			}
		}
	}
}

// Places that there would be if numbers of one part were carried over to the next one.
func TestP3_2NothingIsCarriedOver(t *testing.T) {
	for _, p := range []api.Place{
		{Vol: -1, Seg: 0, Off: 16},
		{Vol: -1, Seg: 1, Off: -1},
		{Vol: -1, Seg: 10},
		{Vol: 0, Seg: -1},
		{Vol: 0, Seg: 3},
		{Vol: 1, Seg: -1},
		{Vol: 2, Seg: -1},
		{Vol: -2, Seg: 10},
		{Vol: 2, Seg: -6},
	} {
		wantOf(t, example, p, 0, api.ErrRange)
	}
	wantOf(t, api.Geo{Disk: 8, Lines: 1, Vols: 0, Segs: 256}, api.Place{}, 0, api.ErrRange)
}

func TestP3_2NoAddress(t *testing.T) {
	for _, g := range valid() {
		for _, n := range outside(len(places(g)) + 1) {
			wantWhere(t, g, n, api.Place{}, api.ErrRange)
		}
		wantWhere(t, g, 0, api.Place{}, api.ErrRange)
	}
}

func TestP3_3Examples(t *testing.T) {
	for _, c := range []struct{ a, seg, tier int }{
		{1, 0, 0}, {16, 0, 0}, {17, 1, 0}, {128, 7, 0},
		{129, 8, 1}, {144, 8, 1}, {145, 9, 1}, {160, 9, 1},
		{161, 10, 2}, {208, 12, 2}, {209, 13, 2}, {256, 15, 2},
	} {
		wantSegment(t, example, c.a, c.seg, api.OK)
		wantTier(t, example, c.a, c.tier)
	}
	for seg, a := range map[int]int{0: 1, 1: 17, 7: 113, 8: 129, 10: 161, 13: 209, 15: 241} {
		wantFirst(t, example, seg, a, api.OK)
	}
}

func TestP3_3EachSegment(t *testing.T) {
	for _, g := range valid() {
		tiers := []int{g.Disk - g.Lines, g.Lines, g.Vols * g.Segs}
		seg := 0
		for tier, n := range tiers {
			for range n {
				wantFirst(t, g, seg, 16*seg+1, api.OK)
				for off := range 16 {
					wantSegment(t, g, 16*seg+1+off, seg, api.OK)
					wantTier(t, g, 16*seg+1+off, tier)
				}
				seg++
			}
		}
	}
}

func TestP3_3NoAddress(t *testing.T) {
	for _, g := range valid() {
		for _, n := range append(outside(len(places(g))+1), 0) {
			wantSegment(t, g, n, 0, api.ErrRange)
			wantTier(t, g, n, -1)
		}
	}
}

func TestP3_3NoSegment(t *testing.T) {
	for _, g := range valid() {
		for _, n := range outside(len(places(g)) / 16) {
			wantFirst(t, g, n, 0, api.ErrRange)
		}
	}
}

// The places in their order have the numbers from 1 on, one each, and no other number is an address.
func TestP3_4EachPlace(t *testing.T) {
	for _, g := range valid() {
		l := places(g)
		if addr.Blocks(g) != len(l) {
			t.Fatalf("Blocks(%v): %d, want %d", g, addr.Blocks(g), len(l))
		}
		for i, p := range l {
			wantOf(t, g, p, i+1, api.OK)
			wantWhere(t, g, i+1, p, api.OK)
		}
		wantWhere(t, g, 0, api.Place{}, api.ErrRange)
		wantWhere(t, g, len(l)+1, api.Place{}, api.ErrRange)
	}
}

func TestP3_4NoTwoAlike(t *testing.T) {
	seen := map[int]api.Place{}
	for vol := -1; vol <= 3; vol++ {
		for seg := -1; seg <= 11; seg++ {
			for off := -1; off <= 17; off++ {
				p := api.Place{Vol: vol, Seg: seg, Off: off}
				a, e := addr.Of(example, p)
				if e != api.OK {
					continue
				}
				if other, there := seen[a]; there {
					t.Errorf("%v and %v have the address %d", other, p, a)
				}
				seen[a] = p
				wantWhere(t, example, a, p, api.OK)
			}
		}
	}
	for a := 1; a <= 256; a++ {
		if _, there := seen[a]; !there {
			t.Errorf("no place has the address %d", a)
		}
	}
	if len(seen) != 256 {
		t.Errorf("%d addresses, want 256", len(seen))
	}
}
