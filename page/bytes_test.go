package page_test

import (
	"bytes"
	"math"
	"slices"
	"strconv"
	"strings"
	"testing"

	"cambist/api"
	"cambist/page"
)

// encoded are a page's bytes, for a sector in which it may be.
func encoded(t *testing.T, sector int, p api.Page) []byte {
	t.Helper()
	b, e := page.Encode(sector, p)
	if e != api.OK || len(b) != 1024 {
		t.Fatalf("Encode(%d, %v): %d bytes, told %d", sector, p, len(b), int(e))
	}
	return b
}

// reads holds what is read of a sector against a page.
func reads(t *testing.T, what string, sector int, b []byte, want api.Page) {
	t.Helper()
	p, e := page.Decode(sector, b)
	if e != api.OK || !same(p, want) {
		t.Errorf("%s: Decode(%d): %v, told %d; want %v", what, sector, p, int(e), want)
	}
}

// none holds bytes against what is told of those that are no page's.
func none(t *testing.T, what string, sector int, b []byte) {
	t.Helper()
	p, e := page.Decode(sector, b)
	if e != api.ErrPage || !same(p, api.Page{}) {
		t.Errorf("%s: Decode(%d): %v, told %d", what, sector, p, int(e))
	}
}

// samples are pages of each Kind, the shortest and the longest ones among them.
func samples() []api.Page {
	return []api.Page{
		{Kind: api.PLeaf, Pairs: []api.Pair{{Key: "a"}}},
		leafOf(1), leafOf(6), fullLeaf(),
		branchOf(1), branchOf(12), fullBranch(),
		{Kind: api.PFree}, freeOf(0), freeOf(1), freeOf(200),
		superOf(0), superOf(1), superOf(math.MaxUint64), emptyOf(0), emptyOf(1 << 40),
	}
}

// lies holds a sector's bytes, place by place, against those at its beginning, bytes 0, and a sum.
func lies(t *testing.T, sector int, p api.Page, want []byte, sum []byte) {
	t.Helper()
	b := encoded(t, sector, p)
	want = append(append(want, make([]byte, 1016-len(want))...), sum...)
	for i := range want {
		if b[i] != want[i] {
			t.Errorf("Kind %d, sector %d: the byte %d is %d; want %d", p.Kind, sector, i, b[i], want[i])
		}
	}
	reads(t, "place by place", sector, want, p)
}

// P5.2, P5.3: the chapter's example, and pages of the other Kinds that lie in the same way, place by place.
func TestBytesPlaceByPlace(t *testing.T) {
	lies(t, 5, api.Page{Kind: api.PLeaf, Pairs: []api.Pair{{Key: "a", Val: "xy"}}},
		[]byte{1, 0, 5, 0, 1, 1, 97, 2, 120, 121},
		[]byte{162, 58, 88, 52, 83, 81, 180, 123})
	lies(t, 4095, api.Page{Kind: api.PLeaf, Pairs: []api.Pair{{Key: "a"}, {Key: "b\xff", Val: "\x00"}}},
		[]byte{1, 15, 255, 0, 2, 1, 97, 0, 2, 98, 255, 1, 0},
		[]byte{206, 186, 214, 134, 178, 82, 114, 180})
	lies(t, 258, api.Page{Kind: api.PBranch, Keys: []string{"m", "zz"}, Kids: []int{2, 300, 4095}},
		[]byte{2, 1, 2, 0, 2, 0, 2, 1, 109, 1, 44, 2, 122, 122, 15, 255},
		[]byte{3, 225, 162, 237, 188, 224, 199, 111})
	lies(t, 2, api.Page{Kind: api.PFree, Pages: []int{2, 7, 4095}, Next: 259},
		[]byte{3, 0, 2, 0, 3, 0, 2, 0, 7, 15, 255, 1, 3},
		[]byte{244, 142, 80, 154, 66, 18, 252, 173})
	lies(t, 3, api.Page{Kind: api.PFree},
		[]byte{3, 0, 3, 0, 0, 0, 0},
		[]byte{98, 235, 96, 178, 164, 40, 131, 118})
}

// P5.2, P5.3: a superblock's bytes, place by place.
func TestSuperPlaceByPlace(t *testing.T) {
	p := api.Page{Kind: api.PSuper, Epoch: 0x0102030405060708, Root: 259, Depth: 20, Count: 0x7f6e5d4c, High: 4096, Next: 4095}
	epoch := []byte{1, 2, 3, 4, 5, 6, 7, 8}
	once := []byte{4, 0, 1, 1, 3, 0, 20, 0x7f, 0x6e, 0x5d, 0x4c, 16, 0, 15, 255}
	b := encoded(t, 1, p)
	want := make([]byte, 1024)
	copy(want, epoch)
	copy(want[8:], once)
	copy(want[512:], once)
	copy(want[1016:], epoch)
	for i := range want {
		if b[i] != want[i] {
			t.Errorf("the byte %d is %d; want %d", i, b[i], want[i])
		}
	}
	reads(t, "place by place", 1, want, p)
	want[10], want[514] = 0, 0
	if b := encoded(t, 0, p); !bytes.Equal(b, want) {
		t.Errorf("in the sector 0: %v", b)
	}
	reads(t, "place by place", 0, want, p)
}

// P5.2: the longest pages have room in their sectors, and end where they should.
func TestLongestTexts(t *testing.T) {
	for _, c := range []struct {
		p    api.Page
		ends int
	}{{fullLeaf(), 3 + 2 + 6*(1+48+1+100)}, {fullBranch(), 3 + 2 + 2 + 12*(1+48+2)}, {freeOf(200), 3 + 2 + 400 + 2}} {
		b := encoded(t, 9, c.p)
		if !bytes.Equal(b[c.ends:1016], make([]byte, 1016-c.ends)) || b[c.ends-1] == 0 {
			t.Errorf("Kind %d does not end at %d", c.p.Kind, c.ends)
		}
		reads(t, "the longest", 9, b, c.p)
	}
}

// P5.4: each sector in which a page may be, and the nearest ones, and others, in which it may not.
func TestEncodeSectors(t *testing.T) {
	sectors := noPlaces()
	for n := range 4200 {
		sectors = append(sectors, n-50)
	}
	for _, p := range []api.Page{leafOf(1), branchOf(1), freeOf(1), superOf(7), emptyOf(0)} {
		for _, sector := range sectors {
			may := sector >= 2 && sector <= 4095
			if p.Kind == api.PSuper {
				may = sector == 0 || sector == 1
			}
			b, e := page.Encode(sector, p)
			if may && (e != api.OK || !bytes.Equal(b, laid(sector, p))) || !may && (e != api.ErrPage || len(b) != 0) {
				t.Errorf("Encode(%d) of Kind %d: %d bytes, told %d", sector, p.Kind, len(b), int(e))
			}
			if may {
				reads(t, "its own sector", sector, b, p)
			}
		}
	}
}

// P5.4: bytes are those of a page at their own sector alone.
func TestDecodeSectors(t *testing.T) {
	for _, p := range samples() {
		for _, own := range []int{0, 1, 2, 3, 255, 256, 4095} {
			if (own < 2) != (p.Kind == api.PSuper) {
				continue
			}
			b := encoded(t, own, p)
			sectors := append(noPlaces(), own-1, own+1, own+256, own^1, own^2, own^256, own+4096, own+1<<16, own-1<<16, own+1<<32)
			for n := range 40 {
				sectors = append(sectors, n, 4080+n)
			}
			for _, sector := range sectors {
				if sector == own {
					reads(t, "its own sector", sector, b, p)
				} else {
					none(t, "another sector", sector, b)
				}
			}
		}
	}
}

// P5.4: bytes that name a sector in which no such page may be, at that sector.
func TestDecodeSectorsThatMayNotBe(t *testing.T) {
	for _, p := range samples() {
		for _, sector := range []int{0, 1, 2, 5, 4095, 4096, 4097, 65535, 65536 + 5, -1, -65531} {
			if p.Kind == api.PSuper && (sector == 0 || sector == 1) || p.Kind != api.PSuper && sector >= 2 && sector <= 4095 {
				reads(t, "its own sector", sector, laid(sector, p), p)
				continue
			}
			none(t, "a page", sector, laid(sector, p))
			none(t, "laid once, with a sum", sector, summed(p.Kind, sector, text(p)))
			none(t, "laid twice, without one", sector, doubled(p.Epoch, p.Kind, sector, text(p)))
		}
	}
}

// P5.4: too few bytes, and too many.
func TestDecodeLengths(t *testing.T) {
	for _, p := range samples() {
		sector := sectorOf(p.Kind)
		b := encoded(t, sector, p)
		for n := range 1024 {
			none(t, strconv.Itoa(n)+" bytes", sector, b[:n]) // what lies behind them takes no part
			none(t, strconv.Itoa(n)+" bytes alone", sector, bytes.Clone(b[:n]))
			none(t, strconv.Itoa(n)+" of the last bytes", sector, b[1024-n:])
		}
		for _, n := range []int{1, 2, 8, 1023, 1024, 1 << 16} {
			none(t, strconv.Itoa(n)+" bytes 0 more", sector, append(bytes.Clone(b), make([]byte, n)...))
			none(t, strconv.Itoa(n)+" bytes 0 ahead", sector, append(make([]byte, n), b...))
		}
		none(t, "twice", sector, append(bytes.Clone(b), b...))
		none(t, "nil", sector, nil)
		none(t, "no bytes", sector, []byte{})
	}
}

// P5.4: bytes of another length than a sector's, with a sum where they end.
func TestDecodeLengthsWithSums(t *testing.T) {
	for _, p := range samples() {
		if p.Kind == api.PSuper {
			continue
		}
		b := encoded(t, 7, p)
		for n := 3 + len(text(p)) + 8; n < 1100; n++ {
			c := make([]byte, n)
			copy(c[:n-8], b[:min(n-8, 1016)])
			resummed(c)
			if n == 1024 {
				reads(t, "a sector's bytes", 7, c, p)
			} else {
				none(t, strconv.Itoa(n)+" bytes", 7, c)
			}
		}
	}
}

// P5.4: bytes that are no page's at all.
func TestDecodeOfAnyBytes(t *testing.T) {
	x := mixer(3)
	for _, sector := range []int{-1, 0, 1, 2, 7, 4095, 4096} {
		for value := range 256 {
			none(t, "one byte", sector, bytes.Repeat([]byte{byte(value)}, 1024))
			none(t, "one byte, and a sum", sector, resummed(bytes.Repeat([]byte{byte(value)}, 1024)))
		}
		for range 300 {
			b := make([]byte, 1024)
			for i := range b {
				b[i] = byte(x.upTo(256))
			}
			none(t, "any bytes", sector, b)
			none(t, "any bytes, and a sum", sector, resummed(b))
		}
	}
}

// P5.4: texts that are no page's, with a sum that is theirs. The first of each Kind is a page's.
func TestDecodeTexts(t *testing.T) {
	long := func(n int) string { return word(strings.Repeat("k", n)) }
	for i, c := range []struct {
		kind int
		text string
		may  bool
	}{
		{1, number(1) + word("a") + word("b"), true},
		{1, number(0), false},
		{1, number(1), false},
		{1, number(2) + word("a") + word("b"), false},
		{1, number(1) + word("a") + word("b") + word("c") + word("d"), false},
		{1, number(1) + word("") + word("b"), false},
		{1, number(1) + long(48) + long(100), true},
		{1, number(1) + long(49) + long(100), false},
		{1, number(1) + long(48) + long(101), false},
		{1, number(1) + long(255) + long(255), false},
		{1, number(2) + word("a") + word("") + word("b") + word(""), true},
		{1, number(2) + word("b") + word("") + word("a") + word(""), false},
		{1, number(2) + word("a") + word("") + word("a") + word(""), false},
		{1, number(7) + word("a") + "\x00" + word("b") + "\x00" + word("c") + "\x00" + word("d") + "\x00" + word("e") + "\x00" + word("f") + "\x00" + word("g") + "\x00", false},
		{1, number(257) + word("a") + word("b"), false},
		{1, number(65535) + word("a") + word("b"), false},
		{1, number(6) + strings.Repeat(long(255), 4), false},
		{1, number(1) + word("a") + word("b") + "\x01", false},
		{1, number(1) + word("a") + word("b") + strings.Repeat("\x00", 1000) + "\x01", false},
		{2, number(1) + number(2) + word("m") + number(3), true},
		{2, number(0) + number(2), false},
		{2, number(0), false},
		{2, number(1) + number(2) + word("m"), false},
		{2, number(2) + number(2) + word("m") + number(3), false},
		{2, number(1) + number(0) + word("m") + number(3), false},
		{2, number(1) + number(2) + word("m") + number(1), false},
		{2, number(1) + number(4096) + word("m") + number(3), false},
		{2, number(1) + number(2) + word("m") + number(65535), false},
		{2, number(1) + number(2) + word("") + number(3), false},
		{2, number(1) + number(2) + long(48) + number(3), true},
		{2, number(1) + number(2) + long(49) + number(3), false},
		{2, number(2) + number(2) + word("n") + number(3) + word("m") + number(4), false},
		{2, number(2) + number(2) + word("m") + number(3) + word("m") + number(4), false},
		{2, number(65535) + number(2) + word("m") + number(3), false},
		{2, number(1) + number(2) + word("m") + number(3) + "\x01", false},
		{3, number(2) + number(2) + number(3) + number(4), true},
		{3, number(0) + number(0), true},
		{3, number(0) + number(4), true},
		{3, number(0) + number(1), false},
		{3, number(0) + number(4096), false},
		{3, number(0) + number(2) + number(1), false},
		{3, number(1) + number(0) + number(0), false},
		{3, number(1) + number(1) + number(0), false},
		{3, number(1) + number(4096) + number(0), false},
		{3, number(2) + number(3) + number(2) + number(0), false},
		{3, number(2) + number(3) + number(3) + number(0), false},
		{3, number(3) + number(2) + number(3), false},
		{3, number(65535) + number(2) + number(3), false},
		{0, number(1) + word("a") + word("b"), false},
		{4, number(5) + number(2) + number(0) + number(9) + number(4096) + number(0), false},
		{5, number(1) + word("a") + word("b"), false},
		{255, number(0) + number(0), false},
	} {
		b := summed(c.kind, 7, c.text)
		p, e := page.Decode(7, b)
		if !c.may {
			none(t, "text "+strconv.Itoa(i), 7, b)
		} else if e != api.OK || !bytes.Equal(encoded(t, 7, p), b) {
			t.Errorf("text %d: %v, told %d", i, p, int(e))
		}
	}
	for n := range 506 { // up to the last one that has room, or all but
		p := api.Page{Kind: api.PFree}
		for i := range n {
			p.Pages = append(p.Pages, 2+i)
		}
		if b := laid(7, p); n <= 200 {
			reads(t, "a list of "+strconv.Itoa(n), 7, b, p)
		} else {
			none(t, "a list of "+strconv.Itoa(n), 7, b)
		}
	}
}

// P5.4: superblocks' texts that may not be, both halves and both Epochs alike. The first ones may be.
func TestDecodeSuperTexts(t *testing.T) {
	tree := func(root, depth int, count int64, high, next int) string {
		return number(root) + number(depth) + number(int(count>>16)) + number(int(count)) + number(high) + number(next)
	}
	for i, c := range []struct {
		kind int
		text string
		may  bool
	}{
		{4, tree(5, 2, 7, 9, 0), true},
		{4, tree(4095, 20, 1<<31-1, 4096, 4095), true},
		{4, tree(0, 0, 0, 2, 0), true},
		{4, tree(2, 1, 1, 2, 2), true},
		{4, tree(0, 0, 0, 2, 2), true},
		{4, tree(1, 2, 7, 9, 0), false},
		{4, tree(4096, 2, 7, 9, 0), false},
		{4, tree(65535, 2, 7, 9, 0), false},
		{4, tree(0, 2, 7, 9, 0), false},
		{4, tree(5, 0, 7, 9, 0), false},
		{4, tree(5, 2, 0, 9, 0), false},
		{4, tree(0, 0, 7, 9, 0), false},
		{4, tree(0, 2, 0, 9, 0), false},
		{4, tree(5, 0, 0, 9, 0), false},
		{4, tree(5, 21, 7, 9, 0), false},
		{4, tree(5, 258, 7, 9, 0), false},
		{4, tree(5, 65535, 7, 9, 0), false},
		{4, tree(5, 2, 1<<31, 9, 0), false},
		{4, tree(5, 2, 1<<32-1, 9, 0), false},
		{4, tree(5, 2, 7, 0, 0), false},
		{4, tree(5, 2, 7, 1, 0), false},
		{4, tree(5, 2, 7, 4097, 0), false},
		{4, tree(5, 2, 7, 65535, 0), false},
		{4, tree(5, 2, 7, 9, 1), false},
		{4, tree(5, 2, 7, 9, 4096), false},
		{4, tree(5, 2, 7, 9, 65535), false},
		{4, tree(5, 2, 7, 9, 0) + "\x01", false},
		{4, tree(5, 2, 7, 9, 0) + strings.Repeat("\x00", 480) + "\x01", false},
		{0, tree(5, 2, 7, 9, 0), false},
		{3, tree(5, 2, 7, 9, 0), false},
		{5, tree(5, 2, 7, 9, 0), false},
		{1, number(1) + word("a") + word("b"), false},
		{2, number(1) + number(2) + word("m") + number(3), false},
		{3, number(0) + number(0), false},
	} {
		for sector := range 2 {
			for _, epoch := range []uint64{0, 1, math.MaxUint64} {
				b := doubled(epoch, c.kind, sector, c.text)
				p, e := page.Decode(sector, b)
				if !c.may {
					none(t, "superblock "+strconv.Itoa(i), sector, b)
				} else if e != api.OK || p.Epoch != epoch || !bytes.Equal(encoded(t, sector, p), b) {
					t.Errorf("superblock %d: %v, told %d", i, p, int(e))
				}
			}
		}
	}
}

// P5.4: pages in no plain order are read again, and texts of them that were turned are told just where Encode makes them.
func TestDecodeInNoPlainOrder(t *testing.T) {
	x := mixer(2)
	met := map[api.Errno]int{}
	for range 20000 {
		p := x.page()
		if !words(p) {
			continue
		}
		sector := sectorOf(p.Kind)
		b := encoded(t, sector, p)
		reads(t, "in no plain order", sector, b, p)
		at, by := x.upTo(40), byte(1+x.upTo(255))
		if p.Kind == api.PSuper {
			at = 8 + at%16
			b[at+504] ^= by
		}
		b[at] ^= by
		if p.Kind != api.PSuper {
			resummed(b)
		}
		q, e := page.Decode(sector, b)
		met[e]++
		if e != api.OK {
			none(t, "turned", sector, b)
		} else if !bytes.Equal(laid(sector, q), b) || !words(q) {
			t.Errorf("%v turned is read as %v", p, q)
		}
	}
	if met[api.OK] < 1000 || met[api.ErrPage] < 1000 {
		t.Errorf("too few of a sort: %v", met)
	}
}

// P5.5: a page of which one byte is another one is none: each byte, by each of its bits and by others.
func TestOneByteTurned(t *testing.T) {
	for _, p := range samples() {
		sector := sectorOf(p.Kind)
		b := encoded(t, sector, p)
		for at := range b {
			for _, by := range []byte{1, 2, 4, 8, 16, 32, 64, 128, 255, 3, byte(at) | 1} {
				b[at] ^= by
				none(t, "the byte "+strconv.Itoa(at)+" turned", sector, b)
				b[at] ^= by
			}
		}
		reads(t, "turned back", sector, b, p)
	}
}

// P5.5: the first bytes of a page, the last of its sum among them, as any others.
func TestOneByteAnyOther(t *testing.T) {
	for _, p := range []api.Page{leafOf(2), branchOf(2), freeOf(2), superOf(300)} {
		sector := sectorOf(p.Kind)
		b := encoded(t, sector, p)
		for at := range b {
			if at > 40 && at < 504 || at > 550 && at < 1008 {
				continue
			}
			kept := b[at]
			for value := range 256 {
				b[at] = byte(value)
				if b[at] != kept {
					none(t, "the byte "+strconv.Itoa(at)+" is "+strconv.Itoa(value), sector, b)
				}
			}
			b[at] = kept
		}
	}
}

// torn holds a sector of which the first bytes are one superblock's and the rest another one's against both, cut at every place.
func torn(t *testing.T, sector int, first, rest api.Page) {
	t.Helper()
	a, b := encoded(t, sector, first), encoded(t, sector, rest)
	for cut := range 1025 {
		c := append(bytes.Clone(a[:cut]), b[cut:]...)
		what := "cut at " + strconv.Itoa(cut)
		switch {
		case bytes.Equal(c, a):
			reads(t, what, sector, c, first)
		case bytes.Equal(c, b):
			reads(t, what, sector, c, rest)
		default:
			none(t, what, sector, c)
		}
	}
}

// P5.5: a superblock that is torn, of one with another Epoch.
func TestTornSuperblocks(t *testing.T) {
	epochs := []uint64{0, 1, 2, 255, 256, 1 << 32, 1 << 56, math.MaxUint64 - 1, math.MaxUint64}
	for _, a := range epochs {
		for _, b := range epochs {
			if a == b {
				continue
			}
			torn(t, 0, superOf(a), emptyOf(b))
			torn(t, 1, emptyOf(a), superOf(b))
			torn(t, 1, superOf(a), superOf(b))
		}
	}
}

// P5.5: a page that is torn, or of which the rest is bytes 0, is one of both or none.
func TestTornPages(t *testing.T) {
	for _, p := range []api.Page{leafOf(1), leafOf(6), fullLeaf(), branchOf(12), freeOf(0), freeOf(200)} {
		for _, q := range []api.Page{leafOf(2), branchOf(1), freeOf(1)} {
			torn(t, 7, p, q)
		}
		b := encoded(t, 7, p)
		for cut := range 1024 {
			if c := append(bytes.Clone(b[:cut]), make([]byte, 1024-cut)...); !bytes.Equal(b, c) {
				none(t, "bytes 0 from "+strconv.Itoa(cut)+" on", 7, c)
			}
		}
	}
}

// P5.3, P5.5: two Epochs, or two halves, that are unlike.
func TestUnlikeHalves(t *testing.T) {
	for sector := range 2 {
		a, b := encoded(t, sector, superOf(7)), encoded(t, sector, emptyOf(8))
		for what, c := range map[string][]byte{
			"another first Epoch":            slices.Concat(b[:8], a[8:]),
			"another last Epoch":             slices.Concat(a[:1016], b[1016:]),
			"another first half":             slices.Concat(a[:8], b[8:504], a[504:]),
			"another second half":            slices.Concat(a[:512], b[512:1008], a[1008:]),
			"another one's halves in turns":  slices.Concat(a[:8], b[8:504], a[504:512], a[512:1008], a[1008:1016], b[1016:]),
			"the Epochs of both":             slices.Concat(a[:504], b[504:]),
			"an Epoch that is not at an end": slices.Concat(a[8:], a[:8]),
			"no second half":                 slices.Concat(a[:512], make([]byte, 496), a[1008:]),
			"no first half":                  slices.Concat(a[:8], make([]byte, 496), a[504:]),
			"no Epoch at the end":            slices.Concat(a[:1016], make([]byte, 8)),
			"a sum at the end":               resummed(bytes.Clone(a)),
		} {
			none(t, what, sector, c)
		}
		reads(t, "both halves, and both Epochs, of another one", sector, slices.Concat(b[:8], b[8:504], a[504:512], b[512:1008], a[1008:1016], b[1016:]), emptyOf(8))
		reads(t, "both Epochs of another one", sector, slices.Concat(b[:8], a[8:1016], b[1016:]), superOf(8))
		reads(t, "both halves of another one", sector, slices.Concat(a[:8], b[8:1016], a[1016:]), emptyOf(7))
	}
}

// P5.3: both halves turned at one place: the bytes 0 of a superblock stay 0.
func TestBothHalvesTurned(t *testing.T) {
	b := encoded(t, 1, superOf(7))
	for at := 8 + 15; at < 512; at++ {
		for _, by := range []byte{1, 128, 255} {
			b[at] ^= by
			b[at+504] ^= by
			none(t, "the byte "+strconv.Itoa(at)+" of both halves", 1, b)
			b[at] ^= by
			b[at+504] ^= by
		}
	}
	b[8+14] ^= 1
	b[512+14] ^= 1
	p := superOf(7)
	p.Next ^= 1
	reads(t, "the last number of both halves", 1, b, p)
}

// roomy is a page whose lists have spare room, full of what a page may not have.
func roomy(p api.Page) api.Page {
	p.Pairs = append(slices.Clone(p.Pairs), make([]api.Pair, 20)...)[:len(p.Pairs)]
	p.Keys = append(slices.Clone(p.Keys), make([]string, 20)...)[:len(p.Keys)]
	p.Kids = append(slices.Clone(p.Kids), make([]int, 20)...)[:len(p.Kids)]
	p.Pages = append(slices.Clone(p.Pages), make([]int, 20)...)[:len(p.Pages)]
	return p
}

// scratch turns all that a page's lists hold, their spare room too.
func scratch(p api.Page) {
	for i := range p.Pairs[:cap(p.Pairs)] {
		p.Pairs[:cap(p.Pairs)][i] = api.Pair{Key: "scratched", Val: "scratched"}
	}
	for i := range p.Keys[:cap(p.Keys)] {
		p.Keys[:cap(p.Keys)][i] = "scratched"
	}
	for _, l := range [][]int{p.Kids, p.Pages} {
		for i := range l[:cap(l)] {
			l[:cap(l)][i] = -7
		}
	}
}

// scratchBytes turns all bytes, the spare room too.
func scratchBytes(b []byte) {
	for i := range b[:cap(b)] {
		b[:cap(b)][i] ^= 0xff
	}
}

// R4, of P5.1, P5.4: Check and Encode change nothing that is handed in, its spare room neither.
func TestPagesAreLeft(t *testing.T) {
	for _, p := range append(samples(), leafOf(7), branchOf(13), freeOf(201), api.Page{Kind: 9, Keys: letters(3, 1)}) {
		q := roomy(p)
		page.Check(q)
		for _, sector := range []int{0, 1, 7, -1} {
			page.Encode(sector, q)
		}
		if !same(q, p) {
			t.Errorf("%v became %v", p, q)
		}
		all := q
		all.Pairs, all.Keys, all.Kids, all.Pages = q.Pairs[:len(q.Pairs)+20], q.Keys[:len(q.Keys)+20], q.Kids[:len(q.Kids)+20], q.Pages[:len(q.Pages)+20]
		for i := range 20 {
			if all.Pairs[len(q.Pairs)+i] != (api.Pair{}) || all.Keys[len(q.Keys)+i] != "" || all.Kids[len(q.Kids)+i] != 0 || all.Pages[len(q.Pages)+i] != 0 {
				t.Errorf("Kind %d: the spare room was written", p.Kind)
			}
		}
	}
}

// R4, of P5.4: what Encode answers lies in memory of its own.
func TestEncodedAlone(t *testing.T) {
	for _, p := range samples() {
		sector, q := sectorOf(p.Kind), copied(p)
		first, second := encoded(t, sector, q), encoded(t, sector, q)
		scratch(q)
		if want := laid(sector, p); !bytes.Equal(first, want) || !bytes.Equal(second, want) {
			t.Errorf("Kind %d: the bytes hang on the page", p.Kind)
		}
		scratchBytes(first)
		if want := laid(sector, p); !bytes.Equal(second, want) || !bytes.Equal(encoded(t, sector, p), want) {
			t.Errorf("Kind %d: two answers share memory", p.Kind)
		}
	}
}

// R4, of P5.4: Decode changes no byte that is handed in, those around neither, whether they are a page's or not.
func TestBytesAreLeft(t *testing.T) {
	for _, p := range samples() {
		sector := sectorOf(p.Kind)
		room := append(bytes.Repeat([]byte{0xab}, 16), laid(sector, p)...)
		room = append(room, bytes.Repeat([]byte{0xab}, 1024)...)
		kept := bytes.Clone(room)
		for _, n := range []int{sector, sector ^ 1, -1} {
			for _, b := range [][]byte{room[16:1040], room[16:1000], room[16:1040:1040], room[16:1050], room, room[:0]} {
				page.Decode(n, b)
			}
		}
		if !bytes.Equal(room, kept) {
			t.Errorf("Kind %d: the bytes were changed", p.Kind)
		}
	}
}

// R4, of P5.4: what Decode answers lies in memory of its own, the texts too.
func TestDecodedAlone(t *testing.T) {
	for _, p := range samples() {
		sector := sectorOf(p.Kind)
		b := encoded(t, sector, p)
		first, e := page.Decode(sector, b)
		second, f := page.Decode(sector, b)
		if e != api.OK || f != api.OK {
			t.Fatalf("told %d, %d", int(e), int(f))
		}
		scratch(first)
		if !same(second, p) || !bytes.Equal(b, laid(sector, p)) {
			t.Errorf("Kind %d: two answers, or an answer and the bytes, share memory", p.Kind)
		}
		scratchBytes(b)
		if !same(second, p) {
			t.Errorf("Kind %d: the page hangs on the bytes: %v", p.Kind, second)
		}
		scratch(second)
		reads(t, "behind all that", sector, laid(sector, p), p)
	}
}

// R5, of P5.4: an answer hangs on nothing that was asked before.
func TestAnswersHangOnNothingBefore(t *testing.T) {
	l := samples()
	for _, p := range l {
		for _, q := range l {
			none(t, "one that is none", sectorOf(q.Kind), laid(sectorOf(q.Kind), q)[:1000])
			reads(t, "one ahead", sectorOf(q.Kind), laid(sectorOf(q.Kind), q), q)
			refused(t, "one that may not be", api.Page{Kind: q.Kind, Pairs: q.Pairs, Keys: q.Keys, Kids: []int{1}})
			reads(t, "the one behind", sectorOf(p.Kind), encoded(t, sectorOf(p.Kind), p), p)
		}
	}
}
