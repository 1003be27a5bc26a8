package reach_test

import (
	"slices"
	"testing"

	"haymow/api"
	"haymow/reach"
)

const (
	maxInt    = int(^uint(0) >> 1)
	minInt    = -maxInt - 1
	blocks    = 3621
	nodeCount = 258
)

// paths returns the paths of all blocks, in the order of the blocks, as they are written down.
func paths() [][]int {
	var l [][]int
	for i := range 6 {
		l = append(l, []int{i})
	}
	for a := range 15 {
		l = append(l, []int{6, a})
	}
	for a := range 15 {
		for b := range 15 {
			l = append(l, []int{7, a, b})
		}
	}
	for a := range 15 {
		for b := range 15 {
			for c := range 15 {
				l = append(l, []int{8, a, b, c})
			}
		}
	}
	return l
}

// names returns the names of all nodes, in the order of their numbers.
func names() [][]int {
	l := [][]int{{6}, {7}, {8}}
	for _, first := range []int{7, 8} {
		for a := range 15 {
			l = append(l, []int{first, a})
		}
	}
	for a := range 15 {
		for b := range 15 {
			l = append(l, []int{8, a, b})
		}
	}
	return l
}

var allPaths, allNames = paths(), names()

// place returns where a list is in others, -1 if it is in none.
func place(all [][]int, l []int) int {
	return slices.IndexFunc(all, func(x []int) bool { return slices.Equal(x, l) })
}

// far returns integers that are no index, no block and no node, also some whose lowest bits alone would be.
func far() []int {
	return []int{minInt, minInt + 1, minInt + 5, minInt + 6, -1 << 40, -1 << 32, -1<<32 + 7, -1 << 31, -3621, -258, -257, -129, -128, -16, -15, -6, -1,
		1 << 31, 1<<31 + 6, 1 << 32, 1<<32 + 1, 1<<32 + 6, 1<<32 + 8, 1 << 40, 1 << 62, maxInt - 3621, maxInt - 14, maxInt - 1, maxInt}
}

// someLists returns lists that are as long as paths or nearly so, with indexes at and around the limits, and far ones.
func someLists() [][]int {
	near := []int{-1, 0, 1, 5, 6, 7, 8, 9, 14, 15, 16}
	all := [][]int{nil, {}}
	last := [][]int{{}}
	for range 4 {
		var next [][]int
		for _, l := range last {
			for _, k := range near {
				next = append(next, append(slices.Clone(l), k))
			}
		}
		all = append(all, next...)
		last = next
	}
	for _, l := range slices.Concat(allPaths, allNames) {
		all = append(all, append(slices.Clone(l), 0), append(slices.Clone(l), 14), append(slices.Clone(l), 0, 0, 0, 0), append([]int{0}, l...))
	}
	for _, l := range [][]int{{5}, {6}, {8}, {6, 3}, {7, 3}, {8, 3}, {7, 3, 4}, {8, 3, 4}, {8, 3, 4, 5}} {
		for i := range l {
			for _, k := range far() {
				x := slices.Clone(l)
				x[i] = k
				all = append(all, x)
			}
		}
	}
	return append(all, make([]int, 100000), append([]int{6}, make([]int, 100000)...), append([]int{8}, make([]int, 100000)...))
}

func TestP8_1Path(t *testing.T) {
	all := allPaths
	if len(all) != blocks || blocks != api.MaxBlocks {
		t.Fatalf("%d paths", len(all))
	}
	for n, want := range all {
		if p, e := reach.Path(n); !slices.Equal(p, want) || e != api.OK {
			t.Errorf("Path(%d): %v, %d, want %v", n, p, e, want)
		}
	}
	for _, n := range append(far(), blocks, blocks+1, 2*blocks, 9999) {
		if p, e := reach.Path(n); p != nil || e != api.ErrRange {
			t.Errorf("Path(%d): %v, %d", n, p, e)
		}
	}
}

func TestP8_1Block(t *testing.T) {
	all := allPaths
	for want, p := range all {
		if n, e := reach.Block(p); n != want || e != api.OK {
			t.Errorf("Block(%v): %d, %d, want %d", p, n, e, want)
		}
	}
	for _, p := range someLists() {
		want, error := place(all, p), api.OK
		if want < 0 {
			want, error = 0, api.ErrRange
		}
		if n, e := reach.Block(p); n != want || e != error {
			t.Errorf("Block(%v): %d, %d, want %d, %d", p[:min(len(p), 5)], n, e, want, error)
		}
	}
	for _, p := range allNames {
		if n, e := reach.Block(p); n != 0 || e != api.ErrRange {
			t.Errorf("Block(%v): %d, %d", p, n, e)
		}
	}
}

func TestP8_2Number(t *testing.T) {
	all := allNames
	if len(all) != nodeCount {
		t.Fatalf("%d names", len(all))
	}
	for want, p := range all {
		if n, e := reach.Number(p); n != want || e != api.OK {
			t.Errorf("Number(%v): %d, %d, want %d", p, n, e, want)
		}
	}
	for _, p := range someLists() {
		want, error := place(all, p), api.OK
		if want < 0 {
			want, error = 0, api.ErrRange
		}
		if n, e := reach.Number(p); n != want || e != error {
			t.Errorf("Number(%v): %d, %d, want %d, %d", p[:min(len(p), 5)], n, e, want, error)
		}
	}
	for _, p := range allPaths {
		if n, e := reach.Number(p); n != 0 || e != api.ErrRange {
			t.Errorf("Number(%v): %d, %d", p, n, e)
		}
	}
}

func TestP8_2Node(t *testing.T) {
	for n, want := range allNames {
		if p, e := reach.Node(n); !slices.Equal(p, want) || e != api.OK {
			t.Errorf("Node(%d): %v, %d, want %v", n, p, e, want)
		}
	}
	for _, n := range append(far(), nodeCount, nodeCount+1, 273, 3621) {
		if p, e := reach.Node(n); p != nil || e != api.ErrRange {
			t.Errorf("Node(%d): %v, %d", n, p, e)
		}
	}
}

// nodesOf returns the numbers of the nodes on the paths to blocks, found by comparing each name with each path.
func nodesOf(l []int) []int {
	var out []int
	all := allPaths
	for number, name := range allNames {
		if slices.ContainsFunc(l, func(n int) bool { return len(all[n]) > len(name) && slices.Equal(all[n][:len(name)], name) }) {
			out = append(out, number)
		}
	}
	return out
}

func TestP8_3Nodes(t *testing.T) {
	var every, backwards []int
	for n := range blocks {
		every, backwards = append(every, n), append(backwards, blocks-1-n)
		if got, e := reach.Nodes([]int{n}); !slices.Equal(got, nodesOf([]int{n})) || e != api.OK {
			t.Errorf("Nodes of %d: %v, %d", n, got, e)
		}
	}
	for _, l := range [][]int{nil, {}, {0}, {5, 0, 5}, {6}, {6, 6, 20, 7}, {21, 6}, {22, 7, 0, 250}, {3620, 0}, {246, 245}, {3620, 246, 21, 6, 0},
		{470, 471, 472, 246}, {36, 35, 21, 37}, every, backwards, slices.Concat(every, every), every[21:246], backwards[:3375]} {
		before := slices.Clone(l)
		got, e := reach.Nodes(l)
		if want := nodesOf(l); !slices.Equal(got, want) || e != api.OK {
			t.Errorf("Nodes of %d blocks: %v, %d, want %v", len(l), got, e, want)
		}
		if !slices.Equal(l, before) {
			t.Errorf("Nodes of %d blocks changes its argument", len(l))
		}
	}
	if got, e := reach.Nodes([]int{22, 7, 0, 250}); !slices.Equal(got, []int{0, 1, 2, 3, 18, 33}) || e != api.OK {
		t.Errorf("Nodes of 22, 7, 0, 250: %v, %d", got, e)
	}
}

func TestP8_3NodesRange(t *testing.T) {
	for _, n := range append(far(), blocks, blocks+1) {
		for _, l := range [][]int{{n}, {n, 7}, {7, n}, {3620, n, 246}, {n, n}} {
			if got, e := reach.Nodes(l); got != nil || e != api.ErrRange {
				t.Errorf("Nodes(%v): %v, %d", l, got, e)
			}
		}
	}
}

func TestP8_3Count(t *testing.T) {
	seen := map[int]bool{}
	all, numbers := allPaths, allNames
	for n := range blocks + 1 {
		if got := reach.Count(n); got != len(seen) {
			t.Errorf("Count(%d): %d, want %d", n, got, len(seen))
		}
		if n == blocks {
			break
		}
		for k := 1; k < len(all[n]); k++ {
			seen[place(numbers, all[n][:k])] = true
		}
	}
	for n, want := range map[int]int{6: 0, 7: 1, 21: 1, 22: 3, 36: 3, 37: 4, 246: 17, 247: 20, 3620: 258, 3621: 258, 3622: 258, 9999: 258} {
		if got := reach.Count(n); got != want {
			t.Errorf("Count(%d): %d, want %d", n, got, want)
		}
	}
	for _, n := range far() {
		want := nodeCount
		if n < 0 {
			want = 0
		}
		if got := reach.Count(n); got != want {
			t.Errorf("Count(%d): %d, want %d", n, got, want)
		}
	}
}

func TestP8_3Size(t *testing.T) {
	for n := range blocks + 10 {
		for k := 1; k <= 128; k++ {
			if got := reach.Size(n*128 + k); got != n+1 {
				t.Fatalf("Size(%d): %d, want %d", n*128+k, got, n+1)
			}
		}
	}
	for octets, want := range map[int]int{0: 0, -1: 0, -127: 0, -128: 0, -129: 0, minInt: 0, minInt + 1: 0, api.MaxSize: 3621, api.MaxSize + 1: 3622,
		1 << 40: 1 << 33, 1<<40 + 1: 1<<33 + 1, maxInt: 1 << 56, maxInt - 126: 1 << 56, maxInt - 127: 1<<56 - 1, maxInt - 128: 1<<56 - 1} {
		if got := reach.Size(octets); got != want {
			t.Errorf("Size(%d): %d, want %d", octets, got, want)
		}
	}
}

func TestP8_4BlockOfPath(t *testing.T) {
	for n := range blocks {
		p, _ := reach.Path(n)
		if got, e := reach.Block(p); got != n || e != api.OK {
			t.Errorf("Block of Path(%d): %d, %d", n, got, e)
		}
	}
	for n := range nodeCount {
		p, _ := reach.Node(n)
		if got, e := reach.Number(p); got != n || e != api.OK {
			t.Errorf("Number of Node(%d): %d, %d", n, got, e)
		}
	}
}

func TestP8_4Prefixes(t *testing.T) {
	for n := range blocks {
		p, _ := reach.Path(n)
		var want []int
		for k := 1; k < len(p); k++ {
			number, e := reach.Number(p[:k])
			if e != api.OK {
				t.Errorf("Number(%v): %d", p[:k], e)
			}
			want = append(want, number)
		}
		slices.Sort(want)
		if got, e := reach.Nodes([]int{n}); !slices.Equal(got, want) || e != api.OK {
			t.Errorf("Nodes of %d: %v, %d, want %v", n, got, e, want)
		}
	}
}

// TestP8_NewMemory: nobody who changes an argument or a result may change what a later call returns.
func TestP8_NewMemory(t *testing.T) {
	calls := map[string]func() []int{
		"Path":  func() []int { p, _ := reach.Path(3000); return p },
		"Node":  func() []int { p, _ := reach.Node(200); return p },
		"Nodes": func() []int { p, _ := reach.Nodes([]int{3000, 30}); return p },
	}
	for name, call := range calls {
		first := call()
		want := slices.Clone(first)
		for i := range first {
			first[i] = 77
		}
		if got := call(); !slices.Equal(got, want) {
			t.Errorf("%s: %v after a result was changed, want %v", name, got, want)
		}
	}
	p := []int{8, 3, 4, 5}
	reach.Block(p)
	reach.Number(p[:3])
	if !slices.Equal(p, []int{8, 3, 4, 5}) {
		t.Errorf("an argument was changed: %v", p)
	}
}
