package store_test

import (
	"math"
	"slices"
	"strconv"
	"strings"
	"testing"

	"cambist/api"
	"cambist/crc"
	"cambist/device"
	"cambist/page"
	"cambist/store"
)

// leaf is a leaf of one key.
func leaf(key string) api.Page {
	return api.Page{Kind: api.PLeaf, Pairs: []api.Pair{{Key: key, Val: "1"}}}
}

// run are the pages from one up to another one, both among them.
func run(from, to int) []int {
	var l []int
	for n := from; n <= to; n++ {
		l = append(l, n)
	}
	return l
}

// lead is a superblock.
func lead(epoch uint64, high, next int) api.Page {
	return api.Page{Kind: api.PSuper, Epoch: epoch, High: high, Next: next}
}

// list is a page of a list.
func list(next int, pages ...int) api.Page {
	return api.Page{Kind: api.PFree, Pages: pages, Next: next}
}

func bytesOf(t *testing.T, n int, p api.Page) []byte {
	t.Helper()
	b, e := page.Encode(n, p)
	if e != api.OK {
		t.Fatalf("Encode(%d, %v): %d", n, p, int(e))
	}
	return b
}

// holding is a device in whose sectors such pages last.
func holding(t *testing.T, sectors int, held map[int]api.Page) *device.Device {
	t.Helper()
	d, _ := device.New(sectors)
	for n, p := range held {
		d.Write(n, bytesOf(t, n, p))
	}
	d.Sync()
	return d
}

func (b *both) pool(what string, high int, free, limbo []int) {
	b.t.Helper()
	if want := (api.Pool{High: high, Free: free, Limbo: limbo}); !samePool(b.s.Pool(), want) {
		b.t.Errorf("%s: Pool %v, want %v", what, b.s.Pool(), want)
	}
}

// is holds an answer against the one that is asked for.
func is(t *testing.T, what string, got, want api.Errno) {
	t.Helper()
	if got != want {
		t.Errorf("%s: %d, want %d", what, int(got), int(want))
	}
}

// lays holds both results of a Lay.
func (b *both) lays(old int, p api.Page, n int, e api.Errno) {
	b.t.Helper()
	if got, ge := b.lay(old, p); got != n || ge != e {
		b.t.Errorf("Lay(%d, ..) = %d, %d; want %d, %d", old, got, int(ge), n, int(e))
	}
}

// used are the pages laid one behind the other, from 2 on.
func (b *both) filled(pages int) *both {
	b.t.Helper()
	for n := 2; n < 2+pages; n++ {
		b.lays(0, leaf("k"+strconv.Itoa(n)), n, api.OK)
	}
	return b
}

// The chapter's examples.
func TestExamples(t *testing.T) {
	d, _ := device.New(16)
	if s, e := store.Open(d); s != nil || e != api.ErrNone {
		t.Errorf("Open = %v, %d", s, int(e))
	}
	b := formatted(t, 16)
	if got := b.s.Super(); got.Epoch != 1 || got.Root != 0 || got.High != 2 {
		t.Errorf("Super %v", got)
	}
	b.pool("Format", 2, nil, nil)
	b.lays(0, leaf("a"), 2, api.OK)
	is(t, "Commit", b.commit(2, 1, 1), api.OK)
	if got := b.s.Super(); got.Epoch != 2 || got.High != 3 {
		t.Errorf("Super %v", got)
	}
	b.lays(2, leaf("b"), 3, api.OK)
	b.pool("Lay", 4, nil, []int{2})
}

// The errors' numbers that the chapter names.
func TestErrorNumbers(t *testing.T) {
	if api.ErrArg != 1 || api.ErrPage != 50 || api.ErrFull != 60 || api.ErrNone != 70 || api.ErrStore != 71 {
		t.Errorf("%d, %d, %d, %d, %d", int(api.ErrArg), int(api.ErrPage), int(api.ErrFull), int(api.ErrNone), int(api.ErrStore))
	}
}

// R1: the calls of a store that is none, and those of none that was formatted.
func TestNone(t *testing.T) {
	if s, e := store.Format(nil); s != nil || e != api.ErrArg {
		t.Errorf("Format(nil) = %v, %d", s, int(e))
	}
	if s, e := store.Open(nil); s != nil || e != api.ErrArg {
		t.Errorf("Open(nil) = %v, %d", s, int(e))
	}
	var s *store.Store
	asked := func(what string) {
		p, e := s.Page(2)
		if !samePage(p, api.Page{}) || e != api.ErrArg {
			t.Errorf("%s: Page = %v, %d", what, p, int(e))
		}
		is(t, what+": Drop", s.Drop(2), api.ErrArg)
		s.Abort()
		if !samePage(s.Super(), api.Page{}) || !samePool(s.Pool(), api.Pool{}) || len(s.Lists()) != 0 || s.Device() != nil {
			t.Errorf("%s: %v, %v, %v, %v", what, s.Super(), s.Pool(), s.Lists(), s.Device())
		}
	}
	asked("nil")
	for _, p := range []api.Page{leaf("a"), {}} {
		if n, e := s.Lay(0, p); n != 0 || e != api.ErrArg {
			t.Errorf("Lay = %d, %d", n, int(e))
		}
	}
	is(t, "Commit", s.Commit(0, 0, 0), api.ErrArg)
	is(t, "Commit", s.Commit(0, 1, 0), api.ErrArg)
	s = new(store.Store)
	asked("without a device")
	if n, e := s.Lay(0, leaf("a")); n != 0 || e == api.OK {
		t.Errorf("without a device: Lay = %d, %d", n, int(e))
	}
	if e := s.Commit(0, 0, 0); e == api.OK {
		t.Errorf("without a device: Commit = %d", int(e))
	}
	asked("without a device, behind them")
}

// P7.1: what a format leaves, on the least device and on the greatest one.
func TestFormat(t *testing.T) {
	for _, sectors := range []int{2, 3, 16, api.MaxSectors} {
		b := formatted(t, sectors)
		if got := b.s.Super(); !samePage(got, lead(1, 2, 0)) {
			t.Errorf("%d sectors: Super %v", sectors, got)
		}
		b.pool("Format", 2, nil, nil)
		if len(b.s.Lists()) != 0 || b.s.Device().Sectors() != sectors {
			t.Errorf("%d sectors: Lists %v", sectors, b.s.Lists())
		}
		if got, want := b.s.Device().Lasting(), []api.Kept{{Sector: 1, Data: bytesOf(t, 1, lead(1, 2, 0))}}; !sameKept(got, want) || len(b.s.Device().Cached()) != 0 {
			t.Errorf("%d sectors: another thing lasts", sectors)
		}
		b.tellOpen("Format")
	}
}

// P7.1: a device that is too small, or off, or goes off at one of the three acts of a format: it is told so, without a store.
func TestFormatFails(t *testing.T) {
	if s, e := store.Format(new(device.Device)); s != nil || e != api.ErrSector {
		t.Errorf("Format of no sectors = %v, %d", s, int(e))
	}
	for acts, cached := range []int{0, 0, 1} {
		d, _ := device.New(8)
		d.Fuse(acts)
		if s, e := store.Format(d); s != nil || e != api.ErrDown || !d.Off() || len(d.Lasting()) != 0 || len(d.Cached()) != cached {
			t.Errorf("Format behind %d acts = %v, %d", acts, s, int(e))
		}
		if s, e := store.Format(d); s != nil || e != api.ErrDown {
			t.Errorf("Format of what is off = %v, %d", s, int(e))
		}
		d.Restart(nil, -1, 0)
		if s, e := store.Open(d); s != nil || e != api.ErrNone {
			t.Errorf("Open behind %d acts of a format = %v, %d", acts, s, int(e))
		}
	}
	d, _ := device.New(8)
	d.Fuse(3)
	if s, e := store.Format(d); s == nil || e != api.OK {
		t.Errorf("Format behind 3 acts = %v, %d", s, int(e))
	}
}

// P7.1: a device that was used is formatted: that leaves what lay in the sector 0, and Open finds the greater Epoch.
func TestFormatOfUsed(t *testing.T) {
	b := formatted(t, 8).filled(1)
	b.commit(2, 1, 1)
	d := b.s.Device()
	s, e := store.Format(d)
	if e != api.OK || s.Super().Epoch != 1 || s.Pool().High != 2 || s.Device() != d {
		t.Errorf("Format = %d", int(e))
	}
	again, _ := opened(t, "behind another format", d)
	if again == nil || again.s.Super().Epoch != 2 {
		t.Errorf("another one is opened")
	}
}

// P7.2: which superblock is found.
func TestOpenSuper(t *testing.T) {
	broken := leaf("a")
	for _, c := range []struct {
		what string
		held map[int]api.Page
		high int
		e    api.Errno
	}{
		{"nothing", nil, 0, api.ErrNone},
		{"a page", map[int]api.Page{2: broken}, 0, api.ErrNone},
		{"the sector 0 alone", map[int]api.Page{0: lead(4, 5, 0)}, 5, api.OK},
		{"the sector 1 alone", map[int]api.Page{1: lead(7, 6, 0)}, 6, api.OK},
		{"the greater one in 0", map[int]api.Page{0: lead(8, 5, 0), 1: lead(7, 6, 0)}, 5, api.OK},
		{"the greater one in 1", map[int]api.Page{0: lead(8, 5, 0), 1: lead(9, 6, 0)}, 6, api.OK},
		{"the same one in both", map[int]api.Page{0: lead(8, 5, 0), 1: lead(8, 6, 0)}, 5, api.OK},
		{"the Epoch 0 in both", map[int]api.Page{0: lead(0, 5, 0), 1: lead(0, 6, 0)}, 5, api.OK},
		{"the Epoch 0 alone", map[int]api.Page{1: lead(0, 6, 0)}, 6, api.OK},
		{"Epochs in the other sector", map[int]api.Page{0: lead(3, 5, 0), 1: lead(4, 6, 0)}, 6, api.OK},
		{"the greatest Epoch in 1", map[int]api.Page{0: lead(0, 5, 0), 1: lead(math.MaxUint64, 6, 0)}, 6, api.OK},
		{"the greatest Epoch in 0", map[int]api.Page{0: lead(math.MaxUint64, 5, 0), 1: lead(1<<63-1, 6, 0)}, 5, api.OK},
		{"Epochs above 63 bits", map[int]api.Page{0: lead(1<<63-1, 5, 0), 1: lead(1<<63, 6, 0)}, 6, api.OK},
	} {
		b, e := opened(t, c.what, holding(t, 8, c.held))
		is(t, c.what, e, c.e)
		if e == api.OK && (b.s.Super().High != c.high || b.s.Pool().High != c.high) {
			t.Errorf("%s: %v", c.what, b.s.Super())
		}
	}
}

// P7.2: a superblock that is spoilt is none; one that is in the other sector is none there.
func TestOpenSpoilt(t *testing.T) {
	both := map[int]api.Page{0: lead(8, 5, 0), 1: lead(7, 6, 0)}
	for _, at := range []int{0, 7, 8, 20, 500, 508, 512, 1000, 1010, 1023} {
		d := holding(t, 8, both)
		d.Spoil(0, at, 64)
		if b, _ := opened(t, "spoilt in 0", d); b == nil || b.s.Super().High != 6 {
			t.Errorf("another one is opened")
		}
		d.Spoil(1, at, 64)
		if _, e := opened(t, "spoilt in both", d); e != api.ErrNone {
			t.Errorf("spoilt in both: %d", int(e))
		}
	}
	d, _ := device.New(8)
	d.Write(0, bytesOf(t, 1, lead(8, 5, 0)))
	d.Write(1, bytesOf(t, 0, lead(8, 5, 0)))
	if _, e := opened(t, "each in the other sector", d); e != api.ErrNone {
		t.Errorf("each in the other sector: %d", int(e))
	}
}

// P7.2: the device's errors; what lies in the cache is read like all else.
func TestOpenDevice(t *testing.T) {
	if s, e := store.Open(new(device.Device)); s != nil || e != api.ErrSector {
		t.Errorf("Open of no sectors = %v, %d", s, int(e))
	}
	d := holding(t, 8, map[int]api.Page{0: lead(8, 5, 0), 1: lead(7, 6, 0)})
	d.Write(1, bytesOf(t, 1, lead(9, 4, 3)))
	d.Write(3, bytesOf(t, 3, list(0, 2)))
	if b, _ := opened(t, "in the cache", d); b == nil || b.s.Super().Epoch != 9 {
		t.Errorf("another one is opened")
	}
	d.Fuse(0)
	d.Sync()
	if _, e := opened(t, "off", d); e != api.ErrDown {
		t.Errorf("Open of what is off: %d", int(e))
	}
	d.Restart(nil, -1, 0)
	if b, _ := opened(t, "on again", d); b == nil || b.s.Super().Epoch != 8 {
		t.Errorf("another one is opened")
	}
}

// P7.2: what the lists lead to. Of 20 sectors; High is 12 but where it is said.
func TestOpenLists(t *testing.T) {
	ok, bad := api.OK, api.ErrStore
	for _, c := range []struct {
		what string
		held map[int]api.Page
		e    api.Errno
	}{
		{"one list", map[int]api.Page{0: lead(2, 12, 5), 5: list(0, 2, 3, 9)}, ok},
		{"one list, of none", map[int]api.Page{0: lead(2, 12, 5), 5: list(0)}, ok},
		{"three lists", map[int]api.Page{0: lead(2, 12, 5), 5: list(11, 2, 3), 11: list(2, 4, 6), 2: list(0, 9)}, bad},
		{"three lists, none of them told", map[int]api.Page{0: lead(2, 12, 5), 5: list(11, 3), 11: list(2, 4, 6), 2: list(0, 9, 10)}, ok},
		{"lists with none between them", map[int]api.Page{0: lead(2, 12, 5), 5: list(11), 11: list(2, 4, 6), 2: list(0)}, ok},
		{"all pages", map[int]api.Page{0: lead(2, 12, 5), 5: list(7, 2, 3, 4, 6), 7: list(0, 8, 9, 10, 11)}, ok},

		{"a leaf", map[int]api.Page{0: lead(2, 12, 5), 5: leaf("a")}, bad},
		{"a branch", map[int]api.Page{0: lead(2, 12, 5), 5: {Kind: api.PBranch, Keys: []string{"a"}, Kids: []int{2, 3}}}, bad},
		{"nothing", map[int]api.Page{0: lead(2, 12, 5)}, bad},
		{"a leaf behind a list", map[int]api.Page{0: lead(2, 12, 5), 5: list(6), 6: leaf("a")}, bad},
		{"nothing behind a list", map[int]api.Page{0: lead(2, 12, 5), 5: list(6)}, bad},
		{"beyond the device", map[int]api.Page{0: lead(2, 12, 20)}, bad},
		{"beyond the device, behind a list", map[int]api.Page{0: lead(2, 12, 5), 5: list(20)}, bad},
		{"the last place of all", map[int]api.Page{0: lead(2, 12, 4095)}, bad},

		{"itself", map[int]api.Page{0: lead(2, 12, 5), 5: list(5)}, bad},
		{"the first one", map[int]api.Page{0: lead(2, 12, 5), 5: list(6), 6: list(7), 7: list(5)}, bad},
		{"the last one", map[int]api.Page{0: lead(2, 12, 5), 5: list(6), 6: list(7), 7: list(7)}, bad},
		{"the one ahead", map[int]api.Page{0: lead(2, 12, 5), 5: list(6), 6: list(7), 7: list(6)}, bad},

		{"lists that do not rise", map[int]api.Page{0: lead(2, 12, 5), 5: list(6, 9), 6: list(0, 8)}, bad},
		{"a page in both lists", map[int]api.Page{0: lead(2, 12, 5), 5: list(6, 8, 9), 6: list(0, 9, 10)}, bad},
		{"a page of High - 1", map[int]api.Page{0: lead(2, 12, 5), 5: list(0, 11)}, ok},
		{"a page of High", map[int]api.Page{0: lead(2, 12, 5), 5: list(0, 12)}, bad},
		{"a page above High", map[int]api.Page{0: lead(2, 12, 5), 5: list(0, 2, 19)}, bad},
		{"a page of High, behind another list", map[int]api.Page{0: lead(2, 12, 5), 5: list(6, 2), 6: list(0, 12)}, bad},

		{"High of the device's sectors", map[int]api.Page{0: lead(2, 20, 0)}, ok},
		{"High of the device's sectors, and a list", map[int]api.Page{0: lead(2, 20, 19), 19: list(0, 18)}, ok},
		{"High above the device's sectors", map[int]api.Page{0: lead(2, 21, 0)}, bad},
		{"High above the device's sectors, and a list", map[int]api.Page{0: lead(2, 21, 19), 19: list(0, 18)}, bad},
		{"the greatest High", map[int]api.Page{0: lead(2, 4096, 0)}, bad},
		{"the least High", map[int]api.Page{0: lead(2, 2, 0)}, ok},
		{"the least High, and a list", map[int]api.Page{0: lead(2, 2, 2), 2: list(0)}, bad},

		{"its own page is High - 1", map[int]api.Page{0: lead(2, 12, 11), 11: list(0, 2)}, ok},
		{"its own page is High", map[int]api.Page{0: lead(2, 12, 12), 12: list(0, 2)}, bad},
		{"its own page is above High", map[int]api.Page{0: lead(2, 12, 15), 15: list(0, 2)}, bad},
		{"its own page is the least", map[int]api.Page{0: lead(2, 12, 2), 2: list(0, 3)}, ok},
		{"the second one's own page is High", map[int]api.Page{0: lead(2, 12, 11), 11: list(12, 2), 12: list(0, 3)}, bad},
		{"its own page is free by itself", map[int]api.Page{0: lead(2, 12, 5), 5: list(0, 2, 5)}, bad},
		{"its own page is free by another one", map[int]api.Page{0: lead(2, 12, 5), 5: list(6, 2), 6: list(0, 5)}, bad},
		{"the second one's own page is free", map[int]api.Page{0: lead(2, 12, 5), 5: list(6, 6), 6: list(0)}, bad},
	} {
		_, e := opened(t, c.what, holding(t, 20, c.held))
		is(t, c.what, e, c.e)
	}
}

// summed are a page's bytes with one of them another one, and with a sum that says nothing of it.
func summed(b []byte, at int, by byte) []byte {
	b = slices.Clone(b)
	b[at] = by
	sum := crc.Sum(b[:api.Size-8])
	for i := range 8 {
		b[api.Size-1-i] = byte(sum >> (8 * i))
	}
	return b
}

// P7.2: no list lies below 2: a page that leads there is no list, and a superblock that does is none.
func TestOpenListBelow(t *testing.T) {
	d := holding(t, 20, map[int]api.Page{0: lead(2, 12, 5)})
	is(t, "Write", d.Write(5, summed(bytesOf(t, 5, list(6)), 6, 1)), api.OK)
	_, e := opened(t, "a list that leads to 1", d)
	is(t, "a list that leads to 1", e, api.ErrStore)
	is(t, "Write", d.Write(5, summed(bytesOf(t, 5, list(6)), 6, 6)), api.OK)
	is(t, "Write", d.Write(6, bytesOf(t, 6, list(0))), api.OK)
	_, e = opened(t, "a list that leads to 6", d)
	is(t, "a list that leads to 6", e, api.OK)

	b := bytesOf(t, 0, lead(2, 12, 5))
	for at, by := range b {
		if by == 5 {
			b[at] = 1
		}
	}
	d.Write(0, b)
	_, e = opened(t, "a superblock that leads to 1", d)
	is(t, "a superblock that leads to 1", e, api.ErrNone)
}

// P7.2: as many lists as can be: each page of the greatest device is one, or is told by one.
func TestOpenManyLists(t *testing.T) {
	held := map[int]api.Page{1: lead(1, api.MaxSectors, 2)}
	for n := 2; n < api.MaxSectors-1; n++ {
		held[n] = list(n + 1)
	}
	held[api.MaxSectors-1] = list(0)
	b, e := opened(t, "lists alone", holding(t, api.MaxSectors, held))
	if e != api.OK || len(b.s.Lists()) != api.MaxSectors-2 {
		t.Errorf("lists alone: %d", int(e))
	}
	held[api.MaxSectors-1] = list(2)
	_, e = opened(t, "lists in a ring", holding(t, api.MaxSectors, held))
	is(t, "lists in a ring", e, api.ErrStore)
}

// P7.3: what a page holds: laid, in the cache, lasting, or none.
func TestPage(t *testing.T) {
	b := formatted(t, 8)
	b.allPages("Format")
	for i, p := range []api.Page{
		leaf("a"),
		{Kind: api.PBranch, Keys: []string{"a", "b"}, Kids: []int{2, 7, 4095}},
		list(4, 2, 3),
	} {
		n, _ := b.lay(0, p)
		got, e := b.s.Page(n)
		if !samePage(got, p) || e != api.OK || n != 2+i {
			t.Errorf("Page(%d) = %v, %d; want %v", n, got, int(e), p)
		}
	}
	is(t, "Commit", b.commit(3, 2, 9), api.OK)
	b.lay(3, leaf("c"))
	b.allPages("Lay")
	for n, want := range map[int]api.Errno{0: api.ErrPage, 1: api.ErrPage, 2: api.OK, 6: api.ErrPage, 7: api.ErrPage, 8: api.ErrSector, -1: api.ErrSector, math.MaxInt: api.ErrSector, math.MinInt: api.ErrSector} {
		p, e := b.s.Page(n)
		is(t, "Page("+strconv.Itoa(n)+")", e, want)
		if e != api.OK && !samePage(p, api.Page{}) {
			t.Errorf("Page(%d) = %v", n, p)
		}
	}
	b.s.Device().Spoil(2, 100, 1)
	if _, e := b.s.Page(2); e != api.ErrPage {
		t.Errorf("Page of what is spoilt: %d", int(e))
	}
	b.s.Device().Fuse(0)
	b.s.Device().Sync()
	for _, n := range []int{-1, 0, 2, 3, 8} {
		if p, e := b.s.Page(n); !samePage(p, api.Page{}) || e != api.ErrDown {
			t.Errorf("Page(%d) of what is off = %v, %d", n, p, int(e))
		}
	}
	b.pool("Page does not abort", 6, nil, []int{3})
}

// P7.4: pages that may not be laid. Nothing is taken for them, and nothing is given; that is asked ahead of all but the store.
func TestLayRefused(t *testing.T) {
	b := formatted(t, 5).filled(2)
	b.commit(2, 1, 1)
	b.lay(0, leaf("c"))
	long := strings.Repeat("x", api.MaxKey+1)
	for i, p := range []api.Page{
		{}, {Kind: 5}, {Kind: -1}, {Kind: api.PLeaf}, {Kind: api.PBranch}, {Kind: api.PFree, Next: 1}, leaf(""), leaf(long),
		{Kind: api.PFree, Pages: run(2, 2+api.MaxPages)}, {Kind: api.PFree, Pages: []int{3, 2}}, {Kind: api.PBranch, Keys: []string{"a"}, Kids: []int{2}},
		{Kind: api.PLeaf, Pairs: []api.Pair{{Key: "a", Val: strings.Repeat("x", api.MaxVal+1)}}}, {Kind: api.PLeaf, Pairs: []api.Pair{{Key: "a"}, {Key: "a"}}},
		{Kind: api.PSuper, High: 2}, {Kind: api.PSuper, High: 9, Root: 2, Depth: 1, Count: 1, Epoch: 7}, {Kind: api.PSuper},
	} {
		for _, old := range []int{0, 1, 2, 3, 4, 5, 99, -1} {
			if n, e := b.lay(old, p); n != 0 || e != api.ErrPage {
				t.Errorf("Lay(%d, the page %d) = %d, %d", old, i, n, int(e))
			}
		}
	}
	b.pool("what is refused", 5, nil, nil)
	b.fuse(0)
	b.lays(4, api.Page{}, 0, api.ErrPage)
	b.lays(4, leaf("d"), 0, api.ErrDown)
	b.lays(4, api.Page{}, 0, api.ErrPage)
}

// R4: a page that is laid is neither changed nor kept.
func TestLayKeepsNothing(t *testing.T) {
	b := formatted(t, 8)
	pairs := []api.Pair{{Key: "a", Val: "1"}, {Key: "b", Val: "2"}, {Key: "-"}}
	pages := []int{2, 3, 4, -7}
	b.lays(0, api.Page{Kind: api.PLeaf, Pairs: pairs[:2]}, 2, api.OK)
	b.lays(0, list(0, pages[:3]...), 3, api.OK)
	if !slices.Equal(pairs, []api.Pair{{Key: "a", Val: "1"}, {Key: "b", Val: "2"}, {Key: "-"}}) || !slices.Equal(pages, []int{2, 3, 4, -7}) {
		t.Errorf("what was laid was changed: %v, %v", pairs, pages)
	}
	pairs[0].Key, pages[0] = "z", 77
	for range 2 {
		p, _ := b.s.Page(2)
		l, _ := b.s.Page(3)
		if p.Pairs[0].Key != "a" || l.Pages[0] != 2 {
			t.Errorf("what was laid was kept: %v, %v", p, l)
		}
		p.Pairs[0].Key = "z"
		spoilt(l.Pages)
	}
}

// P7.4: where a page comes to lie: in the place of one that is fresh, else in the page that is used next; what it replaces is in limbo then.
func TestLayPlaces(t *testing.T) {
	b := formatted(t, 16).filled(4) // 2 to 5
	b.lays(4, leaf("again"), 4, api.OK)
	b.pool("the place of a fresh one", 6, nil, nil)
	b.commit(2, 1, 1)
	b.lays(4, leaf("b"), 6, api.OK)
	b.pool("instead of one that the commit has", 7, nil, []int{4})
	b.lays(6, leaf("c"), 6, api.OK)
	b.pool("the place of a fresh one", 7, nil, []int{4})
	b.lays(2, leaf("d"), 7, api.OK)
	b.pool("instead of another one", 8, nil, []int{2, 4})
	b.drop(6)
	b.pool("a fresh one is dropped", 8, []int{6}, []int{2, 4})
	b.lays(3, leaf("e"), 6, api.OK)
	b.pool("a free one is used first", 8, nil, []int{2, 3, 4})
	b.commit(7, 1, 1)
	b.pool("Commit", 9, []int{2, 3, 4}, nil)
	b.lays(7, leaf("f"), 2, api.OK)
	b.lays(0, leaf("g"), 3, api.OK)
	b.pool("what was in limbo is used", 9, []int{4}, []int{7})
	b.allPages("Lay")
}

// P7.4: an old page that the pool does not lend: the page that was taken for it is free again, and nothing is aborted.
func TestLayOldRefused(t *testing.T) {
	b := formatted(t, 16).filled(6) // 2 to 7
	b.commit(2, 1, 1)
	b.drop(5)
	b.drop(6)
	b.commit(2, 1, 1) // a list in 8 tells of 5 and 6
	b.drop(3)
	b.lays(0, leaf("a"), 5, api.OK)
	b.pool("all kinds", 9, []int{6}, []int{3})
	for _, old := range []int{1, -1, math.MinInt, math.MaxInt, 3, 9, 10, 16, 17, 4096} {
		b.lays(old, leaf("b"), 0, api.ErrArg)
		b.pool("Lay("+strconv.Itoa(old)+")", 9, []int{6}, []int{3})
	}
	b.lays(0, leaf("b"), 6, api.OK)
	b.lays(3, leaf("c"), 0, api.ErrArg)
	b.pool("one more page was taken", 10, []int{9}, []int{3})
	b.lays(12, leaf("c"), 0, api.ErrArg)
	b.pool("and is taken again", 10, []int{9}, []int{3})
	b.lays(5, leaf("d"), 5, api.OK) // fresh as before
	b.lays(0, leaf("e"), 9, api.OK)
	b.pool("it is free, and not fresh", 10, nil, []int{3})
	if p, e := b.s.Page(9); e != api.OK || p.Pairs[0].Key != "e" {
		t.Errorf("Page(9) = %v, %d", p, int(e))
	}
}

// P7.4: a page is taken ahead of the old one's being given: an old page that is the one that is taken is lent by then.
func TestLayOldIsTaken(t *testing.T) {
	b := formatted(t, 16).filled(2)
	b.commit(2, 1, 1)
	b.lays(4, leaf("a"), 4, api.OK)
	b.pool("Lay(High)", 5, nil, []int{4})
	is(t, "Drop of what is fresh, and in limbo", b.drop(4), api.ErrArg)
	b.lays(4, leaf("b"), 4, api.OK)
	b.commit(2, 1, 1)
	b.pool("Commit", 6, []int{4}, nil)
	b.lays(4, leaf("c"), 4, api.OK)
	b.pool("Lay(the first free one)", 6, nil, []int{4})
}

// P7.4, P7.6: till the device is full: that takes all back.
func TestLayTillFull(t *testing.T) {
	for sectors := 2; sectors < 9; sectors++ {
		b := formatted(t, sectors).filled(sectors - 2)
		b.lays(0, leaf("z"), 0, api.ErrFull)
		b.pool("Format, and full", 2, nil, nil)
		if b.filled(sectors - 2); sectors == 2 {
			continue
		}
		b.lays(2, leaf("y"), 2, api.OK)
		is(t, "Commit", b.commit(2, 1, 1), api.OK)
		b.lays(2, leaf("z"), 0, api.ErrFull)
		b.lays(99, leaf("z"), 0, api.ErrFull)
		b.pool("full", sectors, nil, nil)
		b.lays(0, api.Page{}, 0, api.ErrPage)
		is(t, "Drop", b.drop(2), api.OK)
		b.lays(0, leaf("z"), 0, api.ErrFull)
		b.pool("Drop is taken back", sectors, nil, nil)
		b.allPages("full")
	}
}

// P7.4, P7.6: a write that fails takes all back, that of a fresh page too.
func TestLayFails(t *testing.T) {
	for _, old := range []int{0, 2, 4} {
		b := formatted(t, 16).filled(2)
		b.commit(2, 1, 1)
		b.lays(3, leaf("a"), 4, api.OK)
		b.drop(2)
		b.lays(0, leaf("b"), 5, api.OK)
		if old == 2 {
			b.abort()
		}
		b.fuse(0)
		b.lays(old, leaf("c"), 0, api.ErrDown)
		b.pool("Lay fails", 4, nil, nil)
		b.lays(99, leaf("c"), 0, api.ErrArg)
		b.pool("an old page that may not be is told first", 5, []int{4}, nil)
		b.lays(0, leaf("c"), 0, api.ErrDown)
		b.pool("Lay fails once more", 4, nil, nil)
		b.restart(nil, -1, 0)
		b.lays(4, leaf("d"), 4, api.OK) // 4 is not fresh: it is taken, and given
		b.pool("Lay", 5, nil, []int{4})
	}
}

// P7.4: what is dropped: a fresh page is free at once, another one in limbo; what the pool does not lend is refused, and nothing is aborted.
func TestDrop(t *testing.T) {
	b := formatted(t, 16).filled(4)
	b.commit(2, 1, 1)
	b.lays(0, leaf("a"), 6, api.OK)
	b.lays(0, leaf("b"), 7, api.OK)
	for _, c := range []struct {
		n           int
		e           api.Errno
		free, limbo []int
	}{
		{6, api.OK, []int{6}, nil},
		{6, api.ErrArg, []int{6}, nil},
		{4, api.OK, []int{6}, []int{4}},
		{4, api.ErrArg, []int{6}, []int{4}},
		{2, api.OK, []int{6}, []int{2, 4}},
		{0, api.ErrArg, []int{6}, []int{2, 4}},
		{1, api.ErrArg, []int{6}, []int{2, 4}},
		{-1, api.ErrArg, []int{6}, []int{2, 4}},
		{8, api.ErrArg, []int{6}, []int{2, 4}},
		{math.MaxInt, api.ErrArg, []int{6}, []int{2, 4}},
		{math.MinInt, api.ErrArg, []int{6}, []int{2, 4}},
		{7, api.OK, []int{6, 7}, []int{2, 4}},
		{3, api.OK, []int{6, 7}, []int{2, 3, 4}},
	} {
		is(t, "Drop("+strconv.Itoa(c.n)+")", b.drop(c.n), c.e)
		b.pool("Drop("+strconv.Itoa(c.n)+")", 8, c.free, c.limbo)
	}
	b.lays(6, leaf("c"), 6, api.OK) // fresh no more: it is taken first, and given
	b.pool("Lay", 8, []int{7}, []int{2, 3, 4, 6})
	b.fuse(0)
	is(t, "Drop of what is off", b.drop(5), api.OK)
	is(t, "Drop of what is off", b.drop(9), api.ErrArg)
}

// P7.5: roots, depths and counts that make no superblock: nothing is done, and nothing is taken back.
func TestCommitRefused(t *testing.T) {
	b := formatted(t, 16).filled(3)
	b.commit(2, 1, 1)
	b.lays(3, leaf("a"), 5, api.OK)
	lasting, cached := b.s.Device().Lasting(), b.s.Device().Cached()
	b.fuse(0) // it is told ahead of all that the device says
	for _, c := range [][3]int{
		{1, 1, 1}, {-1, 1, 1}, {4096, 1, 1}, {math.MaxInt, 1, 1}, {math.MinInt, 1, 1},
		{2, 0, 1}, {2, 1, 0}, {2, 0, 0}, {0, 1, 0}, {0, 0, 1}, {0, 1, 1},
		{2, 21, 1}, {2, -1, 1}, {2, math.MaxInt, 1}, {2, math.MinInt, 1},
		{2, 1, 1 << 31}, {2, 1, -1}, {2, 1, math.MaxInt}, {2, 1, math.MinInt},
	} {
		is(t, "Commit", b.commit(c[0], c[1], c[2]), api.ErrPage)
	}
	b.pool("what is refused", 6, nil, []int{3})
	if d := b.s.Device(); !sameKept(d.Lasting(), lasting) || !sameKept(d.Cached(), cached) || d.Off() {
		t.Errorf("what is refused was written")
	}
	b.fuse(-1)
	b.lays(5, leaf("b"), 5, api.OK)
	for _, c := range [][3]int{{0, 0, 0}, {2, 1, 1}, {4095, 20, 1<<31 - 1}, {15, 7, 3}} {
		is(t, "Commit", b.commit(c[0], c[1], c[2]), api.OK)
		if got := b.s.Super(); got.Root != c[0] || got.Depth != c[1] || got.Count != c[2] {
			t.Errorf("Super %v, want %v", got, c)
		}
	}
}

// dropped is a store of one commit with so many pages in limbo, and so many free, the device full but for so many more.
func dropped(t *testing.T, limbo, free, more int) *both {
	t.Helper()
	b := formatted(t, 2+limbo+free+more)
	b.quiet = true
	b.filled(limbo)
	if limbo > 0 {
		is(t, "Commit", b.commit(2, 1, 1), api.OK)
	}
	for range free {
		b.lay(0, leaf("a"))
	}
	for n := range free {
		is(t, "Drop", b.drop(2+limbo+n), api.OK)
	}
	for n := range limbo {
		is(t, "Drop", b.drop(2+n), api.OK)
	}
	b.quiet = false
	b.behind("Drop")
	return b
}

// P7.5: how many pages are taken for the lists, and which ones; what each of them tells.
func TestCommitLists(t *testing.T) {
	for _, c := range []struct {
		limbo, free, more int
		lists             []int // as pages counted behind those that are in limbo and free: 0 is the first one beyond
		e                 api.Errno
	}{
		{0, 0, 0, nil, api.OK}, {0, 0, 5, nil, api.OK},
		{1, 0, 1, []int{0}, api.OK}, {1, 0, 0, nil, api.ErrFull},
		{200, 0, 1, []int{0}, api.OK}, {200, 0, 0, nil, api.ErrFull},
		{201, 0, 2, []int{0, 1}, api.OK}, {201, 0, 1, nil, api.ErrFull},
		{400, 0, 2, []int{0, 1}, api.OK}, {401, 0, 2, nil, api.ErrFull}, {401, 0, 3, []int{0, 1, 2}, api.OK},
		{0, 1, 0, []int{-1}, api.OK}, {0, 2, 0, []int{-2}, api.OK}, {0, 200, 0, []int{-200}, api.OK},
		{0, 201, 0, []int{-201}, api.OK}, {0, 202, 0, []int{-202, -201}, api.OK}, {0, 203, 3, []int{-203, -202}, api.OK},
		{0, 402, 0, []int{-402, -401}, api.OK}, {0, 403, 0, []int{-403, -402, -401}, api.OK},
		{200, 1, 0, []int{-1}, api.OK}, {200, 2, 0, []int{-2, -1}, api.OK}, {201, 1, 1, []int{-1, 0}, api.OK}, {201, 1, 0, nil, api.ErrFull}, {150, 60, 0, []int{-60, -59}, api.OK},
	} {
		what := strconv.Itoa(c.limbo) + " in limbo, " + strconv.Itoa(c.free) + " free"
		b := dropped(t, c.limbo, c.free, c.more)
		is(t, what, b.commit(0, 0, 0), c.e)
		var want []int
		for _, n := range c.lists {
			want = append(want, 2+c.limbo+c.free+n)
		}
		if !slices.Equal(b.s.Lists(), want) {
			t.Errorf("%s: Lists %v, want %v", what, b.s.Lists(), want)
		}
		if c.e == api.OK {
			b.listed(what)
		}
		b.tellOpen(what)
		if t.Failed() {
			return
		}
	}
}

// listed holds the pages of the lists against the pool: in order, 200 a list, what has none left with none; behind a commit.
func (b *both) listed(what string) {
	b.t.Helper()
	lists, left, next := b.s.Lists(), b.s.Pool().Free, b.s.Super().Next
	for i, n := range lists {
		if next != n {
			b.t.Errorf("%s: %d is led to, want %d", what, next, n)
		}
		p, e := b.s.Page(n)
		many := min(len(left), 200)
		if e != api.OK || p.Kind != api.PFree || !slices.Equal(p.Pages, left[:many]) {
			b.t.Errorf("%s: the list %d = %v, %d; want %v", what, i, p, int(e), left[:many])
		}
		left, next = left[many:], p.Next
	}
	if next != 0 || len(left) != 0 {
		b.t.Errorf("%s: behind all lists %d is led to, and %v left", what, next, left)
	}
}

// P7.5: the pages of the last commit's lists are dropped, whatever that tells: they may have been dropped before.
func TestCommitDropsLists(t *testing.T) {
	b := dropped(t, 5, 0, 9)
	b.commit(0, 0, 0)
	if !slices.Equal(b.s.Lists(), []int{7}) {
		t.Errorf("Lists %v", b.s.Lists())
	}
	b.commit(0, 0, 0)
	if !slices.Equal(b.s.Lists(), []int{2}) {
		t.Errorf("Lists %v", b.s.Lists())
	}
	b.pool("the list's own page is free behind it", 8, []int{3, 4, 5, 6, 7}, nil)
	is(t, "Drop of a list", b.drop(2), api.OK)
	b.pool("Drop of a list", 8, []int{3, 4, 5, 6, 7}, []int{2})
	b.commit(0, 0, 0)
	b.pool("Commit behind that", 8, []int{2, 4, 5, 6, 7}, nil)
	b.lays(3, leaf("a"), 2, api.OK) // instead of the list
	b.pool("Lay instead of a list", 8, []int{4, 5, 6, 7}, []int{3})
	b.commit(2, 1, 1)
	b.pool("Commit behind that", 8, []int{3, 5, 6, 7}, nil)
	b.listed("Commit")
}

// P7.5: the Epochs of commits one behind the other, and the sectors that they go to.
func TestEpochs(t *testing.T) {
	b := formatted(t, 8)
	for epoch := uint64(2); epoch < 9; epoch++ {
		other, _ := b.s.Device().Read(int((epoch + 1) % 2))
		n, _ := b.lay(0, leaf("a"))
		is(t, "Commit", b.commit(n, 1, 1), api.OK)
		is(t, "Drop", b.drop(n), api.OK)
		got, _ := b.s.Device().Read(int(epoch % 2))
		p, e := page.Decode(int(epoch%2), got)
		if e != api.OK || p.Epoch != epoch || p.Root != n || !samePage(p, b.s.Super()) {
			t.Errorf("the Epoch %d: %v, %d", epoch, p, int(e))
		}
		if still, _ := b.s.Device().Read(int((epoch + 1) % 2)); !slices.Equal(other, still) {
			t.Errorf("the Epoch %d: the other sector is written", epoch)
		}
	}
}

// P7.5: behind the greatest Epoch comes 0.
func TestEpochGoesRound(t *testing.T) {
	for _, c := range []struct{ epoch, next uint64 }{{math.MaxUint64, 0}, {math.MaxUint64 - 1, math.MaxUint64}, {1<<63 - 1, 1 << 63}, {1<<32 - 1, 1 << 32}, {0, 1}} {
		b, e := opened(t, "an Epoch", holding(t, 8, map[int]api.Page{int(c.epoch % 2): lead(c.epoch, 2, 0)}))
		is(t, "Open", e, api.OK)
		is(t, "Commit", b.commit(0, 0, 0), api.OK)
		if b.s.Super().Epoch != c.next {
			t.Errorf("behind %d comes %d", c.epoch, b.s.Super().Epoch)
		}
		raw, _ := b.s.Device().Read(int(c.next % 2))
		if p, e := page.Decode(int(c.next%2), raw); e != api.OK || p.Epoch != c.next {
			t.Errorf("behind %d: %v, %d", c.epoch, p, int(e))
		}
	}
}

// P7.6: Abort behind what was laid and dropped, and behind nothing.
func TestAbort(t *testing.T) {
	b := dropped(t, 3, 0, 9)
	b.abort()
	b.pool("Abort", 5, nil, nil)
	b.drop(3)
	b.commit(2, 1, 1) // 2 and 4 are used, 3 is free, 5 is the list
	for range 2 {
		b.lays(0, leaf("a"), 3, api.OK)
		b.lays(2, leaf("b"), 6, api.OK)
		b.lays(5, leaf("c"), 7, api.OK)
		b.drop(4)
		b.drop(3)
		b.lays(99, leaf("d"), 0, api.ErrArg)
		b.pool("ahead of Abort", 8, []int{3}, []int{2, 4, 5})
		b.abort()
		b.pool("Abort", 6, []int{3}, nil)
		b.abort()
		b.pool("Abort, twice", 6, []int{3}, nil)
	}
	b.lays(3, leaf("e"), 3, api.OK) // not fresh: taken, and given
	b.pool("Lay", 6, nil, []int{3})
	b.abort()
	b.lays(0, leaf("f"), 3, api.OK)
	b.abort()
	is(t, "Drop of what was fresh", b.drop(3), api.ErrArg)
	is(t, "Commit", b.commit(2, 1, 1), api.OK)
	b.abort()
	b.pool("Abort behind a commit", 6, []int{5}, nil)
	b.tellOpen("Abort")
}

// P7.6: a commit that is told that no page is left is taken back, and all may be done again.
func TestCommitWithoutPage(t *testing.T) {
	b := formatted(t, 6).filled(4)
	is(t, "Commit", b.commit(2, 1, 1), api.OK)
	lasting := b.s.Device().Lasting()
	is(t, "Drop", b.drop(3), api.OK)
	is(t, "Commit of a device that is full", b.commit(2, 1, 1), api.ErrFull)
	b.pool("Commit fails", 6, nil, nil)
	if d := b.s.Device(); !sameKept(d.Lasting(), lasting) || len(d.Cached()) != 0 || b.s.Super().Epoch != 2 {
		t.Errorf("what fails was written")
	}
	is(t, "Drop", b.drop(3), api.OK)
	is(t, "Commit of what may not be", b.commit(2, 0, 1), api.ErrPage)
	b.pool("Commit is refused", 6, nil, []int{3})
}

// P7.5, P7.6: a commit whose write or sync fails, at each place: the last commit stays, and the pool with which it ended.
func TestCommitFails(t *testing.T) {
	for acts := 0; ; acts++ {
		b := dropped(t, 250, 0, 20)
		b.drop(3)
		b.abort()
		b.drop(2)
		is(t, "Commit", b.commit(9, 1, 1), api.OK)
		b.quiet = true
		for n := range 240 {
			b.drop(3 + n)
		}
		b.quiet = false
		b.lays(0, leaf("a"), 2, api.OK)
		b.lays(243, leaf("b"), 253, api.OK)
		super, lists, pool := b.s.Super(), b.s.Lists(), api.Pool{High: 253, Free: []int{2}}
		b.fuse(acts)
		e := b.commit(253, 1, 1)
		if e == api.OK {
			if acts != 5 { // two lists, a sync, the superblock, a sync
				t.Errorf("a commit of %d acts", acts)
			}
			b.listed("Commit")
			return
		}
		is(t, "Commit behind "+strconv.Itoa(acts)+" acts", e, api.ErrDown)
		if !samePage(b.s.Super(), super) || !slices.Equal(b.s.Lists(), lists) || !samePool(b.s.Pool(), pool) {
			t.Errorf("%d acts: %v, %v, %v", acts, b.s.Super(), b.s.Lists(), b.s.Pool())
		}
		b.restart(nil, -1, 0)
		b.tellOpen("Commit fails")
		if b.s.Super().Epoch != super.Epoch {
			t.Errorf("%d acts: the Epoch %d is opened", acts, b.s.Super().Epoch)
		}
	}
}

// P7.7: Device is the very one that was handed in.
func TestDevice(t *testing.T) {
	d, _ := device.New(8)
	s, _ := store.Format(d)
	again, e := store.Open(d)
	if e != api.OK || s.Device() != d || again.Device() != d {
		t.Errorf("Device = %p, %p; want %p", s.Device(), again.Device(), d)
	}
}

// A device of all sectors is filled, committed, dropped and filled again in short time.
func TestGreatestDevice(t *testing.T) {
	d, _ := device.New(api.MaxSectors)
	s, _ := store.Format(d)
	for round := range 2 {
		for n := range 3900 {
			if _, e := s.Lay(0, leaf("a"+strconv.Itoa(n))); e != api.OK {
				t.Fatalf("round %d, Lay %d: %d", round, n, int(e))
			}
		}
		is(t, "Commit", s.Commit(2, 1, 1), api.OK)
		for n := range 4094 {
			s.Drop(2 + n)
		}
		is(t, "Commit", s.Commit(0, 0, 0), api.OK)
		if got := len(s.Lists()); got != 20 {
			t.Errorf("round %d: %d lists", round, got)
		}
		opened(t, "the greatest device", d)
	}
}
