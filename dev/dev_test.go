package dev_test

import (
	"bytes"
	"slices"
	"testing"

	"haymow/api"
	"haymow/dev"
)

const (
	maxInt = int(^uint(0) >> 1)
	minInt = -maxInt - 1

	faultBoth = api.FaultRead | api.FaultWrite
)

// all is a block of equal bytes.
func all(c byte) []byte { return bytes.Repeat([]byte{c}, api.Block) }

// count is a block whose bytes differ from their neighbours, so that a shifted copy shows.
func count(from byte) []byte {
	b := make([]byte, api.Block)
	for i := range b {
		b[i] = from + byte(i)
	}
	return b
}

// torn is the first n bytes of b, and behind them those of old.
func torn(b []byte, n int, old []byte) []byte { return append(bytes.Clone(b[:n]), old[n:]...) }

func newOf(t *testing.T, n int) *dev.Dev {
	t.Helper()
	d, e := dev.New(n)
	if d == nil || e != api.OK {
		t.Fatalf("New(%d): %v, %d", n, d, e)
	}
	return d
}

func wantErr(t *testing.T, what string, got, want api.Errno) {
	t.Helper()
	if got != want {
		t.Errorf("%s: %d, want %d", what, got, want)
	}
}

func wantHas(t *testing.T, d *dev.Dev, i int, want []byte) {
	t.Helper()
	if b, e := d.Has(i); e != api.OK || !bytes.Equal(b, want) {
		t.Errorf("Has(%d): %v, %d, want %v", i, b, e, want)
	}
}

func wantRead(t *testing.T, d *dev.Dev, i int, want []byte) {
	t.Helper()
	if b, e := d.Read(i); e != api.OK || !bytes.Equal(b, want) {
		t.Errorf("Read(%d): %v, %d, want %v", i, b, e, want)
	}
}

func wantNoRead(t *testing.T, d *dev.Dev, i int, want api.Errno) {
	t.Helper()
	if b, e := d.Read(i); e != want || b != nil {
		t.Errorf("Read(%d): %v, %d, want %d and nothing", i, b, e, want)
	}
}

func wantWaits(t *testing.T, d *dev.Dev, want ...int) {
	t.Helper()
	if l := d.Waits(); !slices.Equal(l, want) {
		t.Errorf("Waits: %v, want %v", l, want)
	}
}

func wantPower(t *testing.T, d *dev.Dev, want bool) {
	t.Helper()
	if d.Power() != want {
		t.Errorf("Power: %t, want %t", !want, want)
	}
}

// write makes a write pending, which has to succeed.
func write(t *testing.T, d *dev.Dev, i int, b []byte) {
	t.Helper()
	wantErr(t, "Write", d.Write(i, b), api.OK)
}

// outside is blocks that a device of n does not have.
func outside(n int) []int { return []int{n, n + 1, maxInt, -1, -n, minInt} }

func TestP4_1New(t *testing.T) {
	for _, n := range []int{1, 2, 100, api.MaxDev - 1, api.MaxDev} {
		d := newOf(t, n)
		if d.Size() != n || !d.Power() || !d.Mounted() || len(d.Waits()) != 0 {
			t.Errorf("New(%d): %d blocks, %t, %t, %v", n, d.Size(), d.Power(), d.Mounted(), d.Waits())
		}
		for _, i := range []int{0, n / 2, n - 1} {
			wantHas(t, d, i, all(0))
			wantRead(t, d, i, all(0))
		}
	}
	for _, n := range []int{0, -1, api.MaxDev + 1, maxInt, minInt} {
		if d, e := dev.New(n); d != nil || e != api.ErrArg {
			t.Errorf("New(%d): %v, %d, want ErrArg and nothing", n, d, e)
		}
	}
}

func TestP4_1DevicesAreApart(t *testing.T) {
	c, d := newOf(t, 2), newOf(t, 2)
	write(t, c, 1, all(1))
	c.Flush()
	c.Fault(0, faultBoth)
	c.Mount(false)
	c.Crash(nil)
	wantRead(t, d, 1, all(0))
	write(t, d, 0, all(2))
	wantHas(t, c, 0, all(0))
	wantWaits(t, c)
}

func TestP4_1States(t *testing.T) {
	d := newOf(t, 1)
	for _, is := range []bool{false, false, true, true, false} {
		d.Mount(is)
		if d.Mounted() != is {
			t.Errorf("Mount(%t): mounted %t", is, d.Mounted())
		}
		wantPower(t, d, true)
	}
	d.Crash(nil)
	wantPower(t, d, false)
	if d.Mounted() {
		t.Error("mounted by a crash")
	}
	d.Mount(true)
	wantPower(t, d, false)
	d.On()
	wantPower(t, d, true)
	if !d.Mounted() {
		t.Error("unmounted by the power")
	}
}

func TestP4_1Waits(t *testing.T) {
	d := newOf(t, 4)
	for _, i := range []int{2, 0, 2, 3, 2} {
		write(t, d, i, all(1))
	}
	wantWaits(t, d, 2, 0, 2, 3, 2)
	d.Waits()[0] = 9
	wantWaits(t, d, 2, 0, 2, 3, 2)
	d.Mount(false)
	wantWaits(t, d, 2, 0, 2, 3, 2)
	d.Mount(true)
	d.Flush()
	wantWaits(t, d)
	write(t, d, 1, all(1))
	wantWaits(t, d, 1)
}

func TestP4_1HasRegardless(t *testing.T) {
	d := newOf(t, 2)
	write(t, d, 1, count(1))
	wantHas(t, d, 1, all(0))
	d.Flush()
	write(t, d, 1, all(9))
	d.Fault(1, faultBoth)
	d.Mount(false)
	wantHas(t, d, 1, count(1))
	d.Crash(nil)
	wantHas(t, d, 1, count(1))
	for _, i := range outside(2) {
		if b, e := d.Has(i); b != nil || e != api.ErrRange {
			t.Errorf("Has(%d): %v, %d, want ErrRange and nothing", i, b, e)
		}
	}
}

// TestP4_1Memory: neither arguments nor results share memory with the device.
func TestP4_1Memory(t *testing.T) {
	d := newOf(t, 2)
	b, c := count(1), count(2)
	write(t, d, 0, b)
	wantErr(t, "Spoil", d.Spoil(1, c), api.OK)
	if !bytes.Equal(b, count(1)) || !bytes.Equal(c, count(2)) {
		t.Error("an argument was modified")
	}
	clear(b)
	clear(c)
	for range 2 {
		for _, i := range []int{0, 1} {
			b, _ := d.Read(i)
			clear(b)
			b, _ = d.Has(i)
			clear(b)
		}
		wantRead(t, d, 0, count(1))
		wantRead(t, d, 1, count(2))
		wantHas(t, d, 1, count(2))
		d.Flush()
		wantHas(t, d, 0, count(1))
	}
	done := []int{5, 7}
	write(t, d, 0, all(3))
	d.Crash(done)
	if !slices.Equal(done, []int{5, 7}) {
		t.Errorf("Crash modified its argument: %v", done)
	}
}

func TestP4_2ReadLastPending(t *testing.T) {
	d := newOf(t, 3)
	write(t, d, 1, count(1))
	write(t, d, 1, count(2))
	write(t, d, 2, count(3))
	wantRead(t, d, 0, all(0))
	wantRead(t, d, 1, count(2))
	wantRead(t, d, 2, count(3))
	for i := range 3 {
		wantHas(t, d, i, all(0))
	}
	d.Flush()
	for i, want := range [][]byte{all(0), count(2), count(3)} {
		wantRead(t, d, i, want)
		wantHas(t, d, i, want)
	}
	write(t, d, 1, count(4))
	wantRead(t, d, 1, count(4))
	wantHas(t, d, 1, count(2))
}

// TestP4_2ReadErrors: the first of the errors, whatever else applies.
func TestP4_2ReadErrors(t *testing.T) {
	d := newOf(t, 2)
	write(t, d, 1, all(1))
	d.Fault(1, api.FaultRead)
	wantNoRead(t, d, 1, api.ErrIO)
	d.Fault(1, faultBoth)
	wantNoRead(t, d, 1, api.ErrIO)
	wantRead(t, d, 0, all(0))
	d.Fault(1, api.FaultWrite)
	wantRead(t, d, 1, all(1))
	d.Fault(1, api.FaultNone)
	wantRead(t, d, 1, all(1))
	d.Mount(false)
	wantNoRead(t, d, 0, api.ErrIO)
	d.Crash(nil)
	wantNoRead(t, d, 0, api.ErrPower)
	for _, i := range outside(2) {
		wantNoRead(t, d, i, api.ErrRange)
	}
	d.On()
	for _, i := range outside(2) {
		wantNoRead(t, d, i, api.ErrRange)
	}
	d.Mount(true)
	for _, i := range outside(2) {
		wantNoRead(t, d, i, api.ErrRange)
	}
	wantRead(t, d, 1, all(0))
}

// TestP4_2ReadIsFree: a read does not decrease the budget, nor does it need one.
func TestP4_2ReadIsFree(t *testing.T) {
	d := newOf(t, 1)
	d.Budget(0)
	wantRead(t, d, 0, all(0))
	d.Budget(1)
	wantRead(t, d, 0, all(0))
	d.Has(0)
	d.Waits()
	write(t, d, 0, all(1))
	wantRead(t, d, 0, all(1))
	wantPower(t, d, true)
}

func TestP4_2WriteArguments(t *testing.T) {
	lengths := []int{0, 1, api.Block - 1, api.Block + 1, 2 * api.Block}
	for _, state := range []func(d *dev.Dev){
		func(d *dev.Dev) {},
		func(d *dev.Dev) { d.Mount(false) },
		func(d *dev.Dev) { d.Crash(nil); d.Mount(false) },
		func(d *dev.Dev) { d.Fault(1, faultBoth) },
	} {
		d := newOf(t, 2)
		state(d)
		for _, n := range lengths {
			wantErr(t, "Write, no such block", d.Write(2, make([]byte, n)), api.ErrRange)
			wantErr(t, "Write, another length", d.Write(1, make([]byte, n)), api.ErrArg)
		}
		wantErr(t, "Write, nil", d.Write(0, nil), api.ErrArg)
		for _, i := range outside(2) {
			wantErr(t, "Write, no such block", d.Write(i, all(1)), api.ErrRange)
		}
		wantWaits(t, d)
	}
}

// TestP4_2ArgumentsSpendNothing: a call with a wrong argument leaves the budget, even that of 0, and the power.
func TestP4_2ArgumentsSpendNothing(t *testing.T) {
	d := newOf(t, 2)
	for _, n := range []int{0, 1} {
		d.Budget(n)
		d.Write(2, all(1))
		d.Write(-1, nil)
		d.Write(0, nil)
		d.Spoil(0, all(1))
		d.Fault(0, api.FaultNone)
		d.Mount(true)
		wantPower(t, d, true)
	}
	wantErr(t, "Write", d.Write(0, all(1)), api.OK)
	wantErr(t, "Write without a budget", d.Write(0, all(1)), api.ErrPower)
}

func TestP4_2WriteErrors(t *testing.T) {
	d := newOf(t, 2)
	d.Fault(1, api.FaultWrite)
	wantErr(t, "Write, not writable", d.Write(1, all(1)), api.ErrIO)
	d.Fault(1, faultBoth)
	wantErr(t, "Write, neither", d.Write(1, all(1)), api.ErrIO)
	wantErr(t, "Write elsewhere", d.Write(0, all(2)), api.OK)
	d.Fault(1, api.FaultRead)
	wantErr(t, "Write, not readable", d.Write(1, all(1)), api.OK)
	wantWaits(t, d, 0, 1)
	d.Mount(false)
	wantErr(t, "Write, not mounted", d.Write(0, all(3)), api.ErrIO)
	d.Mount(true)
	wantWaits(t, d, 0, 1)
	wantRead(t, d, 0, all(2))
	d.Crash(nil)
	d.Mount(false)
	d.Fault(0, faultBoth)
	wantErr(t, "Write without power", d.Write(0, all(3)), api.ErrPower)
	wantErr(t, "Flush without power", d.Flush(), api.ErrPower)
}

// TestP4_2FlushDespiteFaults: faults concern calls of Read and Write, not what is pending.
func TestP4_2FlushDespiteFaults(t *testing.T) {
	d := newOf(t, 1)
	write(t, d, 0, all(4))
	d.Fault(0, faultBoth)
	wantErr(t, "Flush", d.Flush(), api.OK)
	wantHas(t, d, 0, all(4))
	wantWaits(t, d)
}

func TestP4_2FlushErrors(t *testing.T) {
	d := newOf(t, 2)
	write(t, d, 1, all(4))
	d.Mount(false)
	wantErr(t, "Flush, not mounted", d.Flush(), api.ErrIO)
	wantWaits(t, d, 1)
	wantHas(t, d, 1, all(0))
	d.Mount(true)
	wantErr(t, "Flush", d.Flush(), api.OK)
	wantErr(t, "Flush of nothing", d.Flush(), api.OK)
	wantHas(t, d, 1, all(4))
}

// TestP4_2BudgetDecreases: by each write, flush and erasure, also by one that fails with ErrIO.
func TestP4_2BudgetDecreases(t *testing.T) {
	calls := map[string]func(d *dev.Dev) api.Errno{
		"Write": func(d *dev.Dev) api.Errno { return d.Write(0, all(1)) },
		"Flush": func(d *dev.Dev) api.Errno { return d.Flush() },
		"Erase": func(d *dev.Dev) api.Errno { return d.Erase() },
		"Write, not writable": func(d *dev.Dev) api.Errno {
			if e := d.Write(1, all(1)); e != api.ErrIO {
				return e
			}
			return api.OK
		},
		"Write, not mounted": unmounted(func(d *dev.Dev) api.Errno { return d.Write(0, all(1)) }),
		"Flush, not mounted": unmounted(func(d *dev.Dev) api.Errno { return d.Flush() }),
		"Erase, not mounted": unmounted(func(d *dev.Dev) api.Errno { return d.Erase() }),
	}
	for what, call := range calls {
		for n := range 4 {
			d := newOf(t, 2)
			d.Fault(1, api.FaultWrite)
			wantErr(t, "Budget", d.Budget(n), api.OK)
			for range n {
				wantErr(t, what, call(d), api.OK)
				wantPower(t, d, true)
			}
			wantErr(t, what+" behind the budget", call(d), api.ErrPower)
			wantPower(t, d, false)
		}
	}
}

// unmounted is a call on a device that is not mounted, which ought to fail with ErrIO; OK says that it did.
func unmounted(call func(d *dev.Dev) api.Errno) func(d *dev.Dev) api.Errno {
	return func(d *dev.Dev) api.Errno {
		d.Mount(false)
		e := call(d)
		d.Mount(true)
		if e == api.ErrIO {
			return api.OK
		}
		return e
	}
}

// TestP4_2PowerFails: what is pending when the budget is over stays so, until the crash says what became of it.
func TestP4_2PowerFails(t *testing.T) {
	for _, call := range []func(d *dev.Dev) api.Errno{
		func(d *dev.Dev) api.Errno { return d.Write(0, all(8)) },
		func(d *dev.Dev) api.Errno { return d.Flush() },
		func(d *dev.Dev) api.Errno { return d.Erase() },
	} {
		d := newOf(t, 2)
		d.Spoil(0, all(5))
		d.Budget(1)
		write(t, d, 0, all(7))
		wantErr(t, "behind the budget", call(d), api.ErrPower)
		wantPower(t, d, false)
		wantWaits(t, d, 0)
		wantHas(t, d, 0, all(5))
		wantNoRead(t, d, 0, api.ErrPower)
		d.Budget(9)
		wantErr(t, "without power", call(d), api.ErrPower)
		wantPower(t, d, false)
		d.Crash([]int{3})
		wantHas(t, d, 0, torn(all(7), 3, all(5)))
		wantWaits(t, d)
	}
}

func TestP4_3Budget(t *testing.T) {
	d := newOf(t, 1)
	for range 1000 { // without a limit at first
		write(t, d, 0, all(1))
		wantErr(t, "Flush", d.Flush(), api.OK)
	}
	d.Budget(1)
	for _, n := range []int{-2, -3, minInt} {
		wantErr(t, "Budget", d.Budget(n), api.ErrArg)
	}
	write(t, d, 0, all(1))
	wantErr(t, "Flush: the budget was left", d.Flush(), api.ErrPower)
	d.On()
	for _, n := range []int{-1, maxInt, 100} {
		d.Budget(0)
		wantErr(t, "Budget", d.Budget(n), api.OK)
		for range 100 {
			write(t, d, 0, all(1))
		}
	}
	wantErr(t, "Flush behind the hundredth", d.Flush(), api.ErrPower)
}

// TestP4_3OffSpendsNothing: calls without power leave the budget as it is; the power's return ends it.
func TestP4_3OffSpendsNothing(t *testing.T) {
	d := newOf(t, 1)
	d.Crash(nil)
	d.Budget(1)
	d.Write(0, all(1))
	d.Flush()
	d.Erase()
	wantPower(t, d, false)
	d.On()
	for range 5 {
		wantErr(t, "Flush", d.Flush(), api.OK)
	}
	d.Budget(2)
	d.On()
	for range 5 {
		wantErr(t, "Flush", d.Flush(), api.OK)
	}
}

func TestP4_3On(t *testing.T) {
	d := newOf(t, 2)
	d.Fault(1, api.FaultRead)
	write(t, d, 0, all(1))
	d.Flush()
	write(t, d, 0, all(2))
	d.Mount(false)
	d.On()
	wantWaits(t, d)
	if d.Mounted() {
		t.Error("On mounted the device")
	}
	d.Mount(true)
	wantRead(t, d, 0, all(1))
	wantNoRead(t, d, 1, api.ErrIO)
	d.Flush()
	wantHas(t, d, 0, all(1))
}

// TestP4_3CrashBytes: every number of bytes, and those outside of it.
func TestP4_3CrashBytes(t *testing.T) {
	for n := -2; n <= api.Block+2; n++ {
		d := newOf(t, 2)
		d.Spoil(1, count(100))
		write(t, d, 1, count(1))
		d.Crash([]int{n})
		wantHas(t, d, 1, torn(count(1), min(max(n, 0), api.Block), count(100)))
		wantHas(t, d, 0, all(0))
		wantPower(t, d, false)
		wantWaits(t, d)
	}
	for _, far := range []struct {
		n    int
		want []byte
	}{{maxInt, all(1)}, {minInt, all(0)}, {1 << 32, all(1)}, {256, all(1)}, {-256, all(0)}} {
		d := newOf(t, 1)
		write(t, d, 0, all(1))
		d.Crash([]int{far.n})
		wantHas(t, d, 0, far.want)
	}
}

// TestP4_3CrashInOrder: later writes tear what earlier ones left, on the same block, and numbers count writes, not blocks.
func TestP4_3CrashInOrder(t *testing.T) {
	d := newOf(t, 3)
	d.Spoil(1, all(7))
	write(t, d, 1, all(8))
	write(t, d, 0, all(5))
	write(t, d, 1, all(9))
	write(t, d, 2, all(6))
	d.Crash([]int{100, -1, 3})
	wantHas(t, d, 0, all(0))
	wantHas(t, d, 1, torn(all(9), 3, torn(all(8), 100, all(7))))
	wantHas(t, d, 2, all(0))
	d.On()
	for _, done := range [][]int{{3, 100}, {0, 100}, {-5, 100}} {
		d.On()
		d.Erase()
		write(t, d, 0, all(1))
		write(t, d, 0, all(2))
		d.Crash(done)
		wantHas(t, d, 0, torn(all(2), 100, all(0)))
	}
	d.On()
	d.Erase()
	write(t, d, 0, all(1))
	d.Crash([]int{1, 128, 128, 128})
	wantHas(t, d, 0, torn(all(1), 1, all(0)))
	d.Crash([]int{128})
	wantHas(t, d, 0, torn(all(1), 1, all(0)))
	wantNoRead(t, d, 0, api.ErrPower)
	d.On()
	wantRead(t, d, 0, torn(all(1), 1, all(0)))
}

// TestP4_3CrashDespiteAll: neither faults nor a missing mount keep a crash from executing what is pending.
func TestP4_3CrashDespiteAll(t *testing.T) {
	d := newOf(t, 1)
	write(t, d, 0, all(1))
	d.Fault(0, faultBoth)
	d.Mount(false)
	d.Crash([]int{7})
	wantHas(t, d, 0, torn(all(1), 7, all(0)))
	d.On()
	d.Mount(true)
	wantNoRead(t, d, 0, api.ErrIO)
}

func TestP4_3Fault(t *testing.T) {
	d := newOf(t, 3)
	wantErr(t, "Fault", d.Fault(1, faultBoth), api.OK)
	for _, kind := range []int{4, 5, -1, -2, maxInt, minInt} {
		wantErr(t, "Fault, no such kind", d.Fault(1, kind), api.ErrArg)
		for _, i := range outside(3) {
			wantErr(t, "Fault, no such block", d.Fault(i, kind), api.ErrRange)
		}
	}
	for _, i := range outside(3) {
		wantErr(t, "Fault, no such block", d.Fault(i, api.FaultNone), api.ErrRange)
	}
	wantNoRead(t, d, 1, api.ErrIO)
	d.Crash(nil)
	d.Mount(false)
	for kind := range 4 {
		wantErr(t, "Fault", d.Fault(2, kind), api.OK)
	}
	d.On()
	d.Mount(true)
	wantNoRead(t, d, 2, api.ErrIO)
	wantErr(t, "Write, not writable", d.Write(2, all(1)), api.ErrIO)
	wantRead(t, d, 0, all(0))
}

// TestP4_3FaultReplaces: the last kind is the fault, whatever the one before.
func TestP4_3FaultReplaces(t *testing.T) {
	for old := range 4 {
		for kind := range 4 {
			d := newOf(t, 1)
			d.Fault(0, old)
			d.Fault(0, kind)
			read, write := api.OK, api.OK
			if kind == 1 || kind == 3 {
				read = api.ErrIO
			}
			if kind >= 2 {
				write = api.ErrIO
			}
			_, e := d.Read(0)
			wantErr(t, "Read", e, read)
			wantErr(t, "Write", d.Write(0, all(1)), write)
		}
	}
}

func TestP4_3Spoil(t *testing.T) {
	d := newOf(t, 2)
	write(t, d, 0, all(1))
	wantErr(t, "Spoil", d.Spoil(0, count(5)), api.OK)
	wantHas(t, d, 0, count(5))
	wantRead(t, d, 0, all(1))
	wantWaits(t, d, 0)
	for _, n := range []int{0, 1, api.Block - 1, api.Block + 1} {
		wantErr(t, "Spoil, another length", d.Spoil(1, make([]byte, n)), api.ErrArg)
		for _, i := range outside(2) {
			wantErr(t, "Spoil, no such block", d.Spoil(i, make([]byte, n)), api.ErrRange)
		}
	}
	for _, i := range outside(2) {
		wantErr(t, "Spoil, no such block", d.Spoil(i, all(1)), api.ErrRange)
	}
	wantHas(t, d, 1, all(0))
	d.Fault(1, faultBoth)
	d.Budget(0)
	d.Mount(false)
	wantErr(t, "Spoil, not mounted", d.Spoil(1, all(6)), api.OK)
	wantPower(t, d, true)
	d.Crash(nil)
	wantErr(t, "Spoil without power", d.Spoil(0, all(7)), api.OK)
	wantHas(t, d, 0, all(7))
	wantHas(t, d, 1, all(6))
}

func TestP4_3Erase(t *testing.T) {
	d := newOf(t, 3)
	d.Spoil(0, all(1))
	d.Spoil(2, all(1))
	write(t, d, 1, all(2))
	d.Fault(2, api.FaultWrite)
	d.Fault(1, api.FaultRead)
	d.Mount(false)
	wantErr(t, "Erase, not mounted", d.Erase(), api.ErrIO)
	wantHas(t, d, 0, all(1))
	wantWaits(t, d, 1)
	d.Mount(true)
	wantErr(t, "Erase", d.Erase(), api.OK)
	wantWaits(t, d)
	d.Flush()
	for i := range 3 {
		wantHas(t, d, i, all(0))
	}
	wantNoRead(t, d, 1, api.ErrIO)
	wantErr(t, "Write, not writable", d.Write(2, all(1)), api.ErrIO)
	d.Spoil(0, all(1))
	d.Crash(nil)
	d.Mount(false)
	wantErr(t, "Erase without power", d.Erase(), api.ErrPower)
	wantHas(t, d, 0, all(1))
}

func TestP4_4FlushedIsKept(t *testing.T) {
	for _, done := range [][]int{nil, {0, 0}, {128, 128}, {5}} {
		d := newOf(t, 2)
		write(t, d, 0, count(1))
		write(t, d, 1, count(2))
		write(t, d, 0, count(3))
		wantErr(t, "Flush", d.Flush(), api.OK)
		d.Crash(done)
		d.On()
		wantRead(t, d, 0, count(3))
		wantRead(t, d, 1, count(2))
	}
}

func TestExamples(t *testing.T) {
	d := newOf(t, 2)
	write(t, d, 1, all(7))
	d.Crash([]int{5})
	wantHas(t, d, 1, torn(all(7), 5, all(0)))

	d = newOf(t, 2)
	d.Fault(0, 1)
	wantNoRead(t, d, 0, api.ErrIO)
	wantErr(t, "Write", d.Write(0, all(1)), api.OK)

	d = newOf(t, 2)
	d.Budget(1)
	wantErr(t, "Write", d.Write(0, all(1)), api.OK)
	wantErr(t, "Flush", d.Flush(), api.ErrPower)
}

// model is a device as the chapter tells it, byte by byte, from a list of what was written.
type model struct {
	has     [][]byte
	at      []int
	what    [][]byte
	budget  int
	off     bool
	away    bool
	noRead  [8]bool
	noWrite [8]bool
}

func (m *model) spend() bool {
	if m.off || m.budget == 0 {
		m.off = true
		return false
	}
	if m.budget > 0 {
		m.budget--
	}
	return true
}

func (m *model) settle(done []int) {
	for k, i := range m.at {
		for j := 0; j < api.Block && k < len(done) && j < done[k]; j++ {
			m.has[i][j] = m.what[k][j]
		}
	}
	m.at, m.what = nil, nil
}

func (m *model) write(i int, b []byte) api.Errno {
	switch {
	case !m.spend():
		return api.ErrPower
	case m.away, m.noWrite[i]:
		return api.ErrIO
	}
	m.at, m.what = append(m.at, i), append(m.what, b)
	return api.OK
}

func (m *model) flush(erase bool) api.Errno {
	switch {
	case !m.spend():
		return api.ErrPower
	case m.away:
		return api.ErrIO
	case erase:
		m.at, m.what = nil, nil
		for i := range m.has {
			clear(m.has[i])
		}
	default:
		m.settle(slices.Repeat([]int{api.Block}, len(m.at)))
	}
	return api.OK
}

func (m *model) read(i int) ([]byte, api.Errno) {
	switch {
	case m.off:
		return nil, api.ErrPower
	case m.away, m.noRead[i]:
		return nil, api.ErrIO
	}
	b := m.has[i]
	for k, at := range m.at {
		if at == i {
			b = m.what[k]
		}
	}
	return b, api.OK
}

// TestP4_4LikeTheModel: long runs of calls of all kinds, after each of which everything is compared.
func TestP4_4LikeTheModel(t *testing.T) {
	const blocks = 4
	for seed := range uint32(40) {
		d, m, r := newOf(t, blocks), &model{budget: -1}, seed
		next := func(n int) int { r = r*1664525 + 1013904223; return int(r>>8) % n }
		for range blocks {
			m.has = append(m.has, all(0))
		}
		for step := range 300 {
			got, want := api.OK, api.OK
			kind, i, b := next(24), next(blocks), count(byte(next(256)))
			switch {
			case kind < 12:
				got, want = d.Write(i, b), m.write(i, b)
			case kind < 14:
				got, want = d.Flush(), m.flush(false)
			case kind < 15:
				got, want = d.Erase(), m.flush(true)
			case kind < 16:
				m.budget = next(12) - 1
				got = d.Budget(m.budget)
			case kind < 17:
				var done []int
				for range next(6) {
					done = append(done, next(200)-40)
				}
				before := [][]byte{}
				for _, b := range m.has {
					before = append(before, bytes.Clone(b))
				}
				at, what := m.at, m.what
				d.Crash(done)
				m.settle(done)
				m.off = true
				wantOfWrites(t, d, before, at, what)
			case kind < 20:
				d.On()
				m.off, m.budget, m.at, m.what = false, -1, nil, nil
			case kind < 21:
				k := next(4) * next(2)
				got = d.Fault(i, k)
				m.noRead[i], m.noWrite[i] = k%2 == 1, k >= 2
			case kind < 23:
				m.away = next(4) == 0
				d.Mount(!m.away)
			default:
				got = d.Spoil(i, b)
				copy(m.has[i], b)
			}
			wantErr(t, "a call", got, want)
			wantModel(t, d, m)
			if t.Failed() {
				t.Fatalf("seed %d, step %d, kind %d", seed, step, kind)
			}
		}
	}
}

// wantOfWrites: each byte of a block is that of a write of it, or what it contained before.
func wantOfWrites(t *testing.T, d *dev.Dev, before [][]byte, at []int, what [][]byte) {
	t.Helper()
	for i, old := range before {
		b, _ := d.Has(i)
		for j, c := range b {
			ok := c == old[j]
			for k := range at {
				ok = ok || at[k] == i && what[k][j] == c
			}
			if !ok {
				t.Errorf("byte %d of block %d is %d, which nobody wrote", j, i, c)
			}
		}
	}
}

func wantModel(t *testing.T, d *dev.Dev, m *model) {
	t.Helper()
	wantWaits(t, d, m.at...)
	wantPower(t, d, !m.off)
	if d.Mounted() == m.away || d.Size() != len(m.has) {
		t.Errorf("mounted %t, size %d", d.Mounted(), d.Size())
	}
	for i := range m.has {
		wantHas(t, d, i, m.has[i])
		if b, e := m.read(i); e == api.OK {
			wantRead(t, d, i, b)
		} else {
			wantNoRead(t, d, i, e)
		}
	}
}
