package device

import (
	"bytes"
	"math"
	"slices"
	"strconv"
	"testing"

	"cambist/api"
)

// made is a device of so many sectors.
func made(t *testing.T, sectors int) *Device {
	t.Helper()
	d, e := New(sectors)
	if e != api.OK || d == nil {
		t.Fatalf("New(%d): %v, %d", sectors, d, int(e))
	}
	return d
}

// full are Size bytes that begin with a text, with bytes 0 behind it.
func full(text string) []byte {
	b := make([]byte, api.Size)
	copy(b, text)
	return b
}

// filled are n bytes, all of them one.
func filled(n int, b byte) []byte { return bytes.Repeat([]byte{b}, n) }

// is holds what a call told against what it should.
func is(t *testing.T, what string, got, want api.Errno) {
	t.Helper()
	if got != want {
		t.Errorf("%s: told %d; want %d", what, int(got), int(want))
	}
}

// fine ends the test where a call is refused.
func fine(t *testing.T, calls ...api.Errno) {
	t.Helper()
	for i, e := range calls {
		if e != api.OK {
			t.Fatalf("call %d: told %d", i, int(e))
		}
	}
}

// reads holds what is read of a sector against a text, with bytes 0 behind it.
func reads(t *testing.T, d *Device, n int, want string) {
	t.Helper()
	b, e := d.Read(n)
	if e != api.OK || !bytes.Equal(b, full(want)) {
		t.Errorf("Read(%d): %d bytes, %.40q.., %d; want %.40q", n, len(b), b, int(e), want)
	}
}

// holds holds a list of sectors against numbers and texts, one behind the other.
func holds(t *testing.T, what string, got []api.Kept, want ...any) {
	t.Helper()
	if len(got) != len(want)/2 {
		t.Errorf("%s: %d sectors; want %d", what, len(got), len(want)/2)
		return
	}
	for i, k := range got {
		n, text := want[2*i].(int), want[2*i+1].(string)
		if k.Sector != n || !bytes.Equal(k.Data, full(text)) {
			t.Errorf("%s: sector %d, %d bytes, %.20q..; want sector %d, %.20q", what, k.Sector, len(k.Data), k.Data, n, text)
		}
	}
}

// P4.3, P4.4: a sector torn behind its first byte.
func TestExampleTorn(t *testing.T) {
	d := made(t, 8)
	fine(t, d.Write(1, []byte("ab")), d.Sync(), d.Write(1, []byte("xyz")))
	d.Restart(nil, 1, 1)
	reads(t, d, 1, "xb")
}

// P4.2: a fuse of one act.
func TestExampleFuse(t *testing.T) {
	d := made(t, 8)
	d.Fuse(1)
	is(t, "Write", d.Write(0, []byte("a")), api.OK)
	is(t, "Sync", d.Sync(), api.ErrDown)
	if !d.Off() {
		t.Error("it is on")
	}
}

// P4.3: a sector that there is not.
func TestExampleNoSector(t *testing.T) {
	b, e := made(t, 8).Read(9)
	is(t, "Read(9)", e, api.ErrSector)
	if len(b) != 0 {
		t.Errorf("%d bytes beside an error", len(b))
	}
}

// P4.1: how many sectors there may be.
func TestNewBounds(t *testing.T) {
	for _, n := range []int{1, 0, -1, -2, api.MaxSectors + 1, api.MaxSectors + 2, math.MinInt, math.MaxInt, 1 << 32, 1<<32 + 8} {
		d, e := New(n)
		is(t, "New of "+strconv.Itoa(n), e, api.ErrArg)
		if d != nil {
			t.Errorf("New(%d): a device beside an error", n)
		}
	}
	for _, n := range []int{2, 3, 8, 400, api.MaxSectors - 1, api.MaxSectors} {
		if got := made(t, n).Sectors(); got != n {
			t.Errorf("New(%d): %d sectors", n, got)
		}
	}
}

// P4.1: a new one holds bytes 0, has an empty cache, is on, and has no fuse.
func TestNewIsEmpty(t *testing.T) {
	for _, n := range []int{2, 8, api.MaxSectors} {
		d := made(t, n)
		for i := range n {
			reads(t, d, i, "")
		}
		holds(t, "Lasting", d.Lasting())
		holds(t, "Cached", d.Cached())
		if d.Off() {
			t.Errorf("%d: off", n)
		}
		for range 50 {
			fine(t, d.Sync(), d.Write(n-1, nil))
		}
	}
}

// P4.1: each is a device of its own.
func TestNewIsAlone(t *testing.T) {
	a, b := made(t, 4), made(t, 4)
	fine(t, a.Write(1, []byte("a")), a.Sync(), a.Write(2, []byte("b")))
	a.Fuse(0)
	is(t, "a", a.Sync(), api.ErrDown)
	is(t, "b", b.Sync(), api.OK)
	holds(t, "Lasting", b.Lasting())
	holds(t, "Cached", b.Cached())
}

// P4.2: just as many acts are done as the fuse says, whichever they are, and the next one is not.
func TestFuseCountsActs(t *testing.T) {
	for acts := range 7 {
		for kinds := range 1 << (acts + 1) {
			d := made(t, 4)
			d.Fuse(acts)
			act := func(i int) api.Errno {
				if kinds>>i&1 == 1 {
					return d.Sync()
				}
				return d.Write(i%4, []byte{byte(i + 1)})
			}
			for i := range acts {
				is(t, "an act ahead", act(i), api.OK)
				if d.Off() {
					t.Fatalf("fuse %d: off behind %d acts", acts, i+1)
				}
			}
			lasting, cached := d.Lasting(), d.Cached()
			is(t, "the act itself", act(acts), api.ErrDown)
			if !d.Off() || !same(d.Lasting(), lasting) || !same(d.Cached(), cached) {
				t.Fatalf("fuse %d, kinds %b: off %v, or the act was done", acts, kinds, d.Off())
			}
		}
	}
}

// same tells whether two lists of sectors are one.
func same(a, b []api.Kept) bool {
	return slices.EqualFunc(a, b, func(x, y api.Kept) bool {
		return x.Sector == y.Sector && bytes.Equal(x.Data, y.Data)
	})
}

// P4.2: with a fuse of 0 the power goes at the act, not ahead of it, and the act is not done.
func TestFuseOfNone(t *testing.T) {
	d := made(t, 4)
	fine(t, d.Write(1, []byte("a")), d.Sync(), d.Write(1, []byte("b")))
	d.Fuse(0)
	if d.Off() {
		t.Error("off ahead of the act")
	}
	reads(t, d, 1, "b")
	is(t, "Write", d.Write(1, []byte("c")), api.ErrDown)
	if !d.Off() {
		t.Error("on behind the act")
	}
	holds(t, "Lasting", d.Lasting(), 1, "a")
	holds(t, "Cached", d.Cached(), 1, "b")

	d.Restart(nil, -1, 0)
	fine(t, d.Write(2, []byte("d")))
	d.Fuse(0)
	is(t, "Sync", d.Sync(), api.ErrDown)
	holds(t, "Lasting", d.Lasting(), 1, "a")
	holds(t, "Cached", d.Cached(), 2, "d")
}

// P4.2: what is refused, and what is no Write and no Sync, is no act.
func TestFuseLeavesOthers(t *testing.T) {
	for _, acts := range []int{0, 1, 2} {
		d := made(t, 4)
		d.Fuse(acts)
		for range 3 {
			is(t, "no sector", d.Write(4, nil), api.ErrSector)
			is(t, "below the sectors", d.Write(-1, []byte("a")), api.ErrSector)
			is(t, "too many bytes", d.Write(0, make([]byte, api.Size+1)), api.ErrSector)
			is(t, "Spoil", d.Spoil(0, 0, 1), api.OK)
			is(t, "Spoil of no sector", d.Spoil(4, 0, 1), api.ErrSector)
			if _, e := d.Read(0); e != api.OK {
				t.Errorf("Read: %d", int(e))
			}
			if _, e := d.Read(4); e != api.ErrSector {
				t.Errorf("Read(4): %d", int(e))
			}
			d.Lasting()
			d.Cached()
			if d.Sectors() != 4 || d.Off() {
				t.Error("off without an act")
			}
		}
		for range acts {
			fine(t, d.Sync())
		}
		is(t, "the act", d.Sync(), api.ErrDown)
	}
}

// P4.2: the fuse is what it was told last; below 0 it is none.
func TestFuseAgain(t *testing.T) {
	for _, c := range []struct {
		told []int
		left int // below 0: none
	}{
		{nil, -1},
		{[]int{-1}, -1},
		{[]int{math.MinInt}, -1},
		{[]int{0}, 0},
		{[]int{0, -1}, -1},
		{[]int{3, -7}, -1},
		{[]int{3, 1}, 1},
		{[]int{1, 3}, 3},
		{[]int{-1, 2}, 2},
		{[]int{2, 0}, 0},
		{[]int{0, math.MaxInt}, -1},
	} {
		d := made(t, 2)
		for _, acts := range c.told {
			d.Fuse(acts)
		}
		if c.left < 0 {
			for range 100 {
				fine(t, d.Sync())
			}
			continue
		}
		for range c.left {
			fine(t, d.Write(0, nil))
		}
		is(t, "behind the fuse", d.Write(0, nil), api.ErrDown)
	}
}

// P4.2: a fuse that is partly gone may be set anew.
func TestFuseIsSetAnew(t *testing.T) {
	d := made(t, 2)
	d.Fuse(2)
	fine(t, d.Sync())
	d.Fuse(2)
	fine(t, d.Sync(), d.Sync())
	is(t, "behind the fuse", d.Sync(), api.ErrDown)
}

// P4.2, P4.4: a fuse alone, of any number, brings no power back, and a restart takes it away.
func TestFuseWhenOff(t *testing.T) {
	for _, acts := range []int{-1, 0, 1, 5} {
		d := made(t, 2)
		d.Fuse(0)
		is(t, "the act", d.Sync(), api.ErrDown)
		d.Fuse(acts)
		is(t, "Sync", d.Sync(), api.ErrDown)
		is(t, "Write", d.Write(0, nil), api.ErrDown)
		if !d.Off() {
			t.Error("on without a restart")
		}
		d.Restart(nil, 0, 0)
		for range 20 {
			fine(t, d.Sync())
		}
	}
}

// P4.3: ErrDown is ahead of all else, and changes nothing.
func TestOff(t *testing.T) {
	d := made(t, 4)
	fine(t, d.Write(1, []byte("a")), d.Sync(), d.Write(2, []byte("b")))
	d.Fuse(0)
	is(t, "the act", d.Sync(), api.ErrDown)
	for _, n := range []int{0, 1, 2, 3, 4, -1, math.MinInt, math.MaxInt} {
		b, e := d.Read(n)
		if e != api.ErrDown || len(b) != 0 {
			t.Errorf("Read(%d): %d bytes, %d", n, len(b), int(e))
		}
		for _, size := range []int{0, 1, api.Size, api.Size + 1} {
			is(t, "Write", d.Write(n, make([]byte, size)), api.ErrDown)
		}
		is(t, "Sync", d.Sync(), api.ErrDown)
	}
	holds(t, "Lasting", d.Lasting(), 1, "a")
	holds(t, "Cached", d.Cached(), 2, "b")
	if d.Sectors() != 4 || !d.Off() {
		t.Errorf("%d sectors, off %v", d.Sectors(), d.Off())
	}
}

// P4.3: just the sectors from 0 up to the last one are there.
func TestSectorsThatThereAre(t *testing.T) {
	for _, sectors := range []int{2, 8, api.MaxSectors} {
		d := made(t, sectors)
		for _, n := range []int{0, 1, sectors - 1} {
			is(t, "Write", d.Write(n, []byte{byte(n), 1}), api.OK)
		}
		for _, n := range []int{0, 1, sectors - 1} {
			reads(t, d, n, string([]byte{byte(n), 1}))
		}
		cached := d.Cached()
		for _, n := range []int{-1, sectors, sectors + 1, math.MinInt, math.MaxInt, 1 << 32, -sectors} {
			b, e := d.Read(n)
			if e != api.ErrSector || len(b) != 0 {
				t.Errorf("Read(%d) of %d: %d bytes, %d", n, sectors, len(b), int(e))
			}
			is(t, "Write of no sector", d.Write(n, []byte("a")), api.ErrSector)
			is(t, "Write of no sector, and too much", d.Write(n, make([]byte, api.Size+1)), api.ErrSector)
		}
		if !same(d.Cached(), cached) || len(d.Lasting()) != 0 || d.Off() {
			t.Errorf("%d: a refused call changed something", sectors)
		}
	}
}

// P4.3: no bytes to Size of them may be written, and bytes 0 stand behind them, whatever was there.
func TestWriteLengths(t *testing.T) {
	for _, size := range []int{0, 1, 2, 511, 512, api.Size - 1, api.Size} {
		for _, before := range []int{0, 1, api.Size} {
			d := made(t, 3)
			fine(t, d.Write(1, filled(before, 'l')), d.Sync(), d.Write(1, filled(before, 'c')))
			b := filled(size, 'n')
			fine(t, d.Write(1, b))
			reads(t, d, 1, string(b))
			reads(t, d, 0, "")
			reads(t, d, 2, "")
			fine(t, d.Sync())
			reads(t, d, 1, string(b))
		}
	}
	d := made(t, 3)
	fine(t, d.Write(1, []byte("a")), d.Sync(), d.Write(1, []byte("b")))
	for _, size := range []int{api.Size + 1, api.Size + 2, 2 * api.Size, 1 << 20} {
		is(t, "too many bytes", d.Write(1, make([]byte, size)), api.ErrSector)
	}
	holds(t, "Lasting", d.Lasting(), 1, "a")
	holds(t, "Cached", d.Cached(), 1, "b")
	fine(t, d.Write(1, nil))
	holds(t, "Cached", d.Cached(), 1, "")
}

// P4.3: what is read is what the cache holds, else what lasts.
func TestReadPrefersTheCache(t *testing.T) {
	d := made(t, 4)
	fine(t, d.Write(0, []byte("a")), d.Write(1, []byte("b")), d.Sync())
	fine(t, d.Write(1, []byte("c")), d.Write(1, []byte("d")), d.Write(2, []byte("e")))
	reads(t, d, 0, "a")
	reads(t, d, 1, "d")
	reads(t, d, 2, "e")
	reads(t, d, 3, "")
	fine(t, d.Write(0, nil))
	reads(t, d, 0, "")
	holds(t, "Lasting", d.Lasting(), 0, "a", 1, "b")
}

// P4.3: a sync lets all of the cache last, and nothing else, and empties it.
func TestSync(t *testing.T) {
	d := made(t, 6)
	fine(t, d.Sync())
	fine(t, d.Write(5, []byte("f")), d.Write(0, []byte("a")), d.Write(3, []byte("c")))
	holds(t, "Lasting ahead", d.Lasting())
	fine(t, d.Sync())
	holds(t, "Lasting", d.Lasting(), 0, "a", 3, "c", 5, "f")
	holds(t, "Cached", d.Cached())
	fine(t, d.Write(3, []byte("C")), d.Write(5, nil), d.Write(1, nil), d.Sync())
	holds(t, "Lasting", d.Lasting(), 0, "a", 3, "C")
	holds(t, "Cached", d.Cached())
	reads(t, d, 5, "")
	fine(t, d.Sync(), d.Sync())
	holds(t, "Lasting", d.Lasting(), 0, "a", 3, "C")
}

// written is a device with sectors that last (a to d of 0 to 3) and others in the cache (A to C of 0 to 2, F of 5).
func written(t *testing.T) *Device {
	t.Helper()
	d := made(t, 8)
	for i, text := range []string{"aaa", "bbb", "ccc", "ddd"} {
		fine(t, d.Write(i, []byte(text)))
	}
	fine(t, d.Sync(), d.Write(0, []byte("AAA")), d.Write(1, []byte("BBB")), d.Write(2, []byte("CCC")), d.Write(5, []byte("FFF")))
	return d
}

// P4.4: which of the cache lasts, by what is kept, and what is torn.
func TestRestart(t *testing.T) {
	for _, c := range []struct {
		name      string
		keep      []int
		torn, cut int
		want      []any
	}{
		{"none kept, none torn", nil, -1, 0, []any{0, "aaa", 1, "bbb", 2, "ccc", 3, "ddd"}},
		{"an empty list", []int{}, 8, 2, []any{0, "aaa", 1, "bbb", 2, "ccc", 3, "ddd"}},
		{"some kept", []int{5, 0}, -1, 2, []any{0, "AAA", 1, "bbb", 2, "ccc", 3, "ddd", 5, "FFF"}},
		{"all kept", []int{0, 1, 2, 5}, -1, 2, []any{0, "AAA", 1, "BBB", 2, "CCC", 3, "ddd", 5, "FFF"}},
		{"all sectors kept", []int{7, 6, 5, 4, 3, 2, 1, 0}, 4, 2, []any{0, "AAA", 1, "BBB", 2, "CCC", 3, "ddd", 5, "FFF"}},
		{"one kept that the cache holds not", []int{3}, -1, 2, []any{0, "aaa", 1, "bbb", 2, "ccc", 3, "ddd"}},
		{"kept sectors that there are not", []int{-1, 8, math.MinInt, math.MaxInt, 2}, -1, 2, []any{0, "aaa", 1, "bbb", 2, "CCC", 3, "ddd"}},
		{"one kept again and again", []int{1, 1, 4, 1}, -1, 2, []any{0, "aaa", 1, "BBB", 2, "ccc", 3, "ddd"}},
		{"torn alone", nil, 1, 2, []any{0, "aaa", 1, "BBb", 2, "ccc", 3, "ddd"}},
		{"torn beside kept ones", []int{0, 5}, 1, 1, []any{0, "AAA", 1, "Bbb", 2, "ccc", 3, "ddd", 5, "FFF"}},
		{"torn and kept", []int{1}, 1, 1, []any{0, "aaa", 1, "BBB", 2, "ccc", 3, "ddd"}},
		{"torn and kept, cut at 0", []int{0, 1}, 1, 0, []any{0, "AAA", 1, "BBB", 2, "ccc", 3, "ddd"}},
		{"torn and kept twice", []int{1, 1}, 1, 1, []any{0, "aaa", 1, "BBB", 2, "ccc", 3, "ddd"}},
		{"torn where nothing lasted", nil, 5, 2, []any{0, "aaa", 1, "bbb", 2, "ccc", 3, "ddd", 5, "FF"}},
		{"torn at 0 where nothing lasted", nil, 5, 0, []any{0, "aaa", 1, "bbb", 2, "ccc", 3, "ddd"}},
		{"torn one that the cache holds not", nil, 3, 2, []any{0, "aaa", 1, "bbb", 2, "ccc", 3, "ddd"}},
		{"torn one that holds nothing", nil, 6, 2, []any{0, "aaa", 1, "bbb", 2, "ccc", 3, "ddd"}},
		{"torn sector that there is not", nil, math.MinInt, 2, []any{0, "aaa", 1, "bbb", 2, "ccc", 3, "ddd"}},
		{"torn sector beyond", []int{0}, math.MaxInt, 2, []any{0, "AAA", 1, "bbb", 2, "ccc", 3, "ddd"}},
		{"torn sector 0", nil, 0, 1, []any{0, "Aaa", 1, "bbb", 2, "ccc", 3, "ddd"}},
		{"cut below 0", nil, 0, -1, []any{0, "aaa", 1, "bbb", 2, "ccc", 3, "ddd"}},
		{"cut far below 0", nil, 0, math.MinInt, []any{0, "aaa", 1, "bbb", 2, "ccc", 3, "ddd"}},
		{"cut at Size", nil, 0, api.Size, []any{0, "AAA", 1, "bbb", 2, "ccc", 3, "ddd"}},
		{"cut beyond", nil, 0, api.Size + 1, []any{0, "AAA", 1, "bbb", 2, "ccc", 3, "ddd"}},
		{"cut far beyond", nil, 0, math.MaxInt, []any{0, "AAA", 1, "bbb", 2, "ccc", 3, "ddd"}},
	} {
		for _, off := range []bool{false, true} {
			d := written(t)
			if off {
				d.Fuse(0)
				is(t, c.name, d.Sync(), api.ErrDown)
			}
			d.Restart(c.keep, c.torn, c.cut)
			holds(t, c.name, d.Lasting(), c.want...)
			holds(t, c.name+", the cache", d.Cached())
			if d.Off() {
				t.Errorf("%s: off", c.name)
			}
		}
	}
}

// P4.4: a cut at each byte: those ahead of it are the new ones, those from it on are the old ones.
func TestRestartAtEachCut(t *testing.T) {
	for cut := -2; cut <= api.Size+2; cut++ {
		d := made(t, 2)
		fine(t, d.Write(1, filled(api.Size, 'o')), d.Sync(), d.Write(1, filled(api.Size, 'n')))
		d.Restart([]int{0}, 1, cut)
		at := min(max(cut, 0), api.Size)
		reads(t, d, 1, string(filled(at, 'n'))+string(filled(api.Size-at, 'o')))
	}
}

// P4.4: what a torn write lays behind its bytes are bytes 0, which last too up to the cut.
func TestRestartTearsZeros(t *testing.T) {
	d := made(t, 2)
	fine(t, d.Write(1, []byte("abcdef")), d.Sync(), d.Write(1, []byte("x")))
	d.Restart(nil, 1, 3)
	reads(t, d, 1, "x\x00\x00def")
	fine(t, d.Write(1, nil))
	d.Restart(nil, 1, api.Size)
	holds(t, "Lasting", d.Lasting())
}

// P4.4: a kept sector of bytes 0 takes away what lasted.
func TestRestartKeepsZeros(t *testing.T) {
	d := made(t, 2)
	fine(t, d.Write(0, []byte("a")), d.Sync(), d.Write(0, nil))
	d.Restart([]int{0}, -1, 0)
	holds(t, "Lasting", d.Lasting())
	reads(t, d, 0, "")
}

// P4.4: a restart brings the power back, and takes the fuse away, used or not.
func TestRestartTakesTheFuse(t *testing.T) {
	for _, acts := range []int{0, 1, 3} {
		for _, used := range []bool{false, true} {
			d := made(t, 2)
			d.Fuse(acts)
			for used && !d.Off() {
				d.Sync()
			}
			d.Restart(nil, -1, 0)
			if d.Off() {
				t.Errorf("fuse %d, used %v: off", acts, used)
			}
			for range 20 {
				fine(t, d.Write(0, []byte("a")), d.Sync())
			}
			d.Fuse(1)
			fine(t, d.Sync())
			is(t, "a new fuse", d.Sync(), api.ErrDown)
		}
	}
}

// P4.5: which sector and which byte may be spoilt, and what is told first.
func TestSpoilRefuses(t *testing.T) {
	for _, off := range []bool{false, true} {
		d := written(t)
		if off {
			d.Fuse(0)
			is(t, "the act", d.Sync(), api.ErrDown)
		}
		lasting, cached := d.Lasting(), d.Cached()
		for _, n := range []int{-1, 8, 9, math.MinInt, math.MaxInt} {
			for _, at := range []int{0, 5, api.Size - 1, -1, api.Size, math.MinInt, math.MaxInt} {
				is(t, "no sector", d.Spoil(n, at, 1), api.ErrSector)
			}
		}
		for _, n := range []int{0, 3, 7} {
			for _, at := range []int{-1, api.Size, api.Size + 1, math.MinInt, math.MaxInt} {
				is(t, "no byte", d.Spoil(n, at, 1), api.ErrArg)
			}
		}
		if !same(d.Lasting(), lasting) || !same(d.Cached(), cached) || d.Off() != off {
			t.Errorf("off %v: a refused call changed something", off)
		}
	}
}

// P4.5: in the cache, if that holds the sector, else in what lasts, on or off.
func TestSpoil(t *testing.T) {
	for _, off := range []bool{false, true} {
		d := written(t)
		if off {
			d.Fuse(0)
			is(t, "the act", d.Sync(), api.ErrDown)
		}
		fine(t, d.Spoil(0, 1, 'A'^'x'), d.Spoil(3, 2, 'd'^'y'), d.Spoil(6, 0, 'z'), d.Spoil(5, 0, 0), d.Spoil(7, 0, 0))
		if d.Off() != off {
			t.Errorf("off %v: %v", off, d.Off())
		}
		holds(t, "Lasting", d.Lasting(), 0, "aaa", 1, "bbb", 2, "ccc", 3, "ddy", 6, "z")
		holds(t, "Cached", d.Cached(), 0, "AxA", 1, "BBB", 2, "CCC", 5, "FFF")
		d.Restart([]int{0}, -1, 0)
		holds(t, "Lasting", d.Lasting(), 0, "AxA", 1, "bbb", 2, "ccc", 3, "ddy", 6, "z")
	}
}

// P4.5: each byte of a sector, the first and the last among them, by each change, and back again.
func TestSpoilEachByte(t *testing.T) {
	d := made(t, 2)
	fine(t, d.Write(1, filled(api.Size, 0x5a)), d.Sync(), d.Write(0, filled(api.Size, 0xa5)))
	for at := range api.Size {
		by := byte(at*7 + 1)
		for n, held := range []byte{0xa5, 0x5a} {
			want := filled(api.Size, held)
			want[at] ^= by
			fine(t, d.Spoil(n, at, by))
			reads(t, d, n, string(want))
			fine(t, d.Spoil(n, at, by))
			reads(t, d, n, string(filled(api.Size, held)))
		}
	}
	for by := range 256 {
		fine(t, d.Spoil(0, 9, byte(by)), d.Spoil(0, 9, byte(by)))
	}
	holds(t, "Cached", d.Cached(), 0, string(filled(api.Size, 0xa5)))
	holds(t, "Lasting", d.Lasting(), 1, string(filled(api.Size, 0x5a)))
}

// P4.5, P4.6: what is spoilt to bytes 0 is told no more of what lasts, and still of the cache.
func TestSpoilToZeros(t *testing.T) {
	d := made(t, 4)
	fine(t, d.Write(1, []byte{0, 7}), d.Sync(), d.Write(2, []byte{7}))
	fine(t, d.Spoil(1, 1, 7), d.Spoil(2, 0, 7))
	holds(t, "Lasting", d.Lasting())
	holds(t, "Cached", d.Cached(), 2, "")
	reads(t, d, 1, "")
	fine(t, d.Spoil(1, 3, 7))
	holds(t, "Lasting", d.Lasting(), 1, "\x00\x00\x00\x07")
}

// P4.6: what lasts and what the cache holds, rising, whatever the order in which it was written.
func TestListsRise(t *testing.T) {
	d := made(t, api.MaxSectors)
	for i := range api.MaxSectors {
		n := i * 1237 % api.MaxSectors
		if n%3 != 0 {
			fine(t, d.Write(n, []byte{byte(n), byte(n >> 8), 1}))
		}
	}
	fine(t, d.Sync())
	for i := range api.MaxSectors {
		n := i * 2749 % api.MaxSectors
		if n%2 != 0 {
			fine(t, d.Write(n, nil))
		}
	}
	var lasting, cached []any
	for n := range api.MaxSectors {
		if n%3 != 0 {
			lasting = append(lasting, n, string([]byte{byte(n), byte(n >> 8), 1}))
		}
		if n%2 != 0 {
			cached = append(cached, n, "")
		}
	}
	holds(t, "Lasting", d.Lasting(), lasting...)
	holds(t, "Cached", d.Cached(), cached...)
	if d.Sectors() != api.MaxSectors {
		t.Errorf("%d sectors", d.Sectors())
	}
}

// P4.6: a sector whose only byte other than 0 is its last one lasts, and one that was laid over by bytes 0 does not.
func TestLastingTellsOtherThanZeros(t *testing.T) {
	d := made(t, 4)
	end := make([]byte, api.Size)
	end[api.Size-1] = 1
	fine(t, d.Write(0, nil), d.Write(1, end), d.Write(2, make([]byte, api.Size)), d.Write(3, []byte("a")))
	holds(t, "Cached", d.Cached(), 0, "", 1, string(end), 2, "", 3, "a")
	fine(t, d.Sync())
	holds(t, "Lasting", d.Lasting(), 1, string(end), 3, "a")
	fine(t, d.Write(3, []byte{0}))
	holds(t, "Lasting", d.Lasting(), 1, string(end), 3, "a")
	fine(t, d.Sync())
	holds(t, "Lasting", d.Lasting(), 1, string(end))
}

// P4.6: Off is asked on a device that goes off and on.
func TestOffAndOn(t *testing.T) {
	d := made(t, 2)
	for range 3 {
		if d.Off() {
			t.Error("off")
		}
		d.Fuse(0)
		is(t, "the act", d.Write(0, nil), api.ErrDown)
		if !d.Off() {
			t.Error("on")
		}
		d.Restart(nil, 0, 0)
	}
}

// P4.7: what is synced is read behind any restart, where nothing was written over it.
func TestSyncedIsReadBehindRestarts(t *testing.T) {
	for _, keep := range [][]int{nil, {0}, {1}, {0, 1, 2, 3}, {-1, 9}} {
		for torn := -1; torn <= 4; torn++ {
			for _, cut := range []int{-1, 0, 1, 2, api.Size, api.Size + 1} {
				d := made(t, 4)
				fine(t, d.Write(1, []byte("ab")), d.Write(3, filled(api.Size, 'q')), d.Sync(), d.Write(0, []byte("new")))
				d.Fuse(1)
				fine(t, d.Write(2, []byte("new")))
				is(t, "the act", d.Sync(), api.ErrDown)
				d.Restart(keep, torn, cut)
				d.Restart(keep, torn, cut)
				reads(t, d, 1, "ab")
				reads(t, d, 3, string(filled(api.Size, 'q')))
			}
		}
	}
}

// P4.7: a restart that keeps all is a sync.
func TestRestartThatKeepsAllIsASync(t *testing.T) {
	for torn := -1; torn <= 8; torn++ {
		a, b := written(t), written(t)
		fine(t, a.Write(3, nil), b.Write(3, nil), a.Sync())
		b.Restart([]int{5, 0, 3, 2, 1}, torn, 1)
		if !same(a.Lasting(), b.Lasting()) || len(a.Cached()) != 0 || len(b.Cached()) != 0 || a.Off() || b.Off() {
			t.Errorf("torn %d: they differ", torn)
		}
	}
}

// R1: each call on a nil device, whatever else it is told.
func TestNilDevice(t *testing.T) {
	var d *Device
	for _, n := range []int{0, 1, -1, math.MinInt, math.MaxInt} {
		b, e := d.Read(n)
		is(t, "Read", e, api.ErrArg)
		if len(b) != 0 {
			t.Errorf("%d bytes", len(b))
		}
		is(t, "Write", d.Write(n, []byte("a")), api.ErrArg)
		is(t, "Write of too much", d.Write(n, make([]byte, api.Size+1)), api.ErrArg)
		is(t, "Sync", d.Sync(), api.ErrArg)
		is(t, "Spoil", d.Spoil(n, n, 1), api.ErrArg)
		d.Fuse(n)
		d.Restart([]int{n, 0}, n, n)
		d.Restart(nil, 0, 0)
		if d.Sectors() != 0 || len(d.Lasting()) != 0 || len(d.Cached()) != 0 || d.Off() {
			t.Error("a nil device tells something")
		}
	}
}

// R1: a device that New did not make has no sectors, and nothing panics on it.
func TestHandMadeDevice(t *testing.T) {
	d := &Device{}
	_, e := d.Read(0)
	is(t, "Read", e, api.ErrSector)
	is(t, "Write", d.Write(0, nil), api.ErrSector)
	is(t, "Spoil", d.Spoil(0, 0, 1), api.ErrSector)
	is(t, "Sync", d.Sync(), api.OK)
	d.Restart([]int{0}, 0, 1)
	if d.Sectors() != 0 || len(d.Lasting()) != 0 || len(d.Cached()) != 0 || d.Off() {
		t.Error("it tells something")
	}
	d.Fuse(0)
	is(t, "the act", d.Sync(), api.ErrDown)
	d.Restart(nil, 0, 0)
	is(t, "Sync", d.Sync(), api.OK)
}

// scratch turns each byte of a list, its spare room too.
func scratch(b []byte) {
	b = b[:cap(b)]
	for i := range b {
		b[i] ^= 0xff
	}
}

// R4, of P4.3, P4.6: what is answered lies in memory of its own.
func TestAnswersAreAlone(t *testing.T) {
	d := written(t)
	for _, n := range []int{0, 3, 5, 7} {
		b, e := d.Read(n)
		is(t, "Read", e, api.OK)
		again, _ := d.Read(n)
		kept := slices.Clone(again)
		scratch(b)
		if !bytes.Equal(again, kept) {
			t.Errorf("Read(%d): two answers share memory", n)
		}
		reads(t, d, n, string(kept))
	}
	for _, l := range [][]api.Kept{d.Lasting(), d.Cached()} {
		for i := range l {
			rest := slices.Clone(l[i+1:])
			for j := range rest {
				rest[j].Data = slices.Clone(rest[j].Data)
			}
			scratch(l[i].Data)
			if !same(l[i+1:], rest) {
				t.Error("two lists of one answer share memory")
			}
			l[i].Sector = -1
		}
	}
	holds(t, "Lasting", d.Lasting(), 0, "aaa", 1, "bbb", 2, "ccc", 3, "ddd")
	holds(t, "Cached", d.Cached(), 0, "AAA", 1, "BBB", 2, "CCC", 5, "FFF")
}

// R4, of P4.3, P4.6: what was answered stays as it was, whatever is done behind it.
func TestAnswersStay(t *testing.T) {
	d := written(t)
	cache, _ := d.Read(0)
	last, _ := d.Read(3)
	lasting, cached := d.Lasting(), d.Cached()
	fine(t, d.Spoil(0, 0, 1), d.Spoil(3, 0, 1), d.Write(0, []byte("q")), d.Sync(), d.Spoil(0, 0, 1))
	d.Restart(nil, 0, 0)
	if !bytes.Equal(cache, full("AAA")) || !bytes.Equal(last, full("ddd")) {
		t.Error("what was read is another")
	}
	holds(t, "Lasting", lasting, 0, "aaa", 1, "bbb", 2, "ccc", 3, "ddd")
	holds(t, "Cached", cached, 0, "AAA", 1, "BBB", 2, "CCC", 5, "FFF")
}

// R4, of P4.3, P4.4: what is handed in is neither changed, its spare room included, nor kept.
func TestArgumentsAreLeft(t *testing.T) {
	d := made(t, 4)
	for _, size := range []int{0, 1, 5, api.Size} {
		room := filled(2*api.Size, 'r')
		fine(t, d.Write(1, room[:size]))
		if !bytes.Equal(room, filled(2*api.Size, 'r')) {
			t.Errorf("%d: the bytes were changed", size)
		}
		scratch(room)
		reads(t, d, 1, string(filled(size, 'r')))
		fine(t, d.Sync())
		scratch(room)
		reads(t, d, 1, string(filled(size, 'r')))
	}
	keep := []int{3, 1, 2, 1, -1, 7, 0}
	fine(t, d.Write(1, nil), d.Write(3, nil))
	d.Restart(keep[:4], 0, 0)
	if !slices.Equal(keep, []int{3, 1, 2, 1, -1, 7, 0}) {
		t.Errorf("keep is %v", keep)
	}
}
