package store_test

import (
	"slices"
	"strings"
	"testing"

	"cambist/api"
	"cambist/device"
	"cambist/page"
	"cambist/store"
)

// pages says of each page below High what it is: a superblock's sector, free, in limbo, or used.
type pages string

const (
	super = 's'
	free  = 'f'
	limbo = 'l'
	used  = 'u'
)

// all are the pages that are the one or the other, rising.
func (p pages) all(kinds string) []int {
	var l []int
	for n, is := range string(p) {
		if strings.ContainsRune(kinds, is) {
			l = append(l, n)
		}
	}
	return l
}

// turned is p with a page of one kind as one of another kind.
func (p pages) turned(n int, from, to byte) (pages, bool) {
	if n < 0 || n >= len(p) || p[n] != from {
		return p, false
	}
	return p[:n] + pages(to) + p[n+1:], true
}

func (p pages) pool() api.Pool {
	return api.Pool{High: len(p), Free: p.all("f"), Limbo: p.all("l")}
}

// taken is p without the page to be used next, and that one.
func (p pages) taken(most int) (pages, int, bool) {
	n := strings.IndexByte(string(p), free)
	if n < 0 && len(p) >= most {
		return p, 0, false
	}
	if n < 0 {
		return p + pages(used), len(p), true
	}
	q, _ := p.turned(n, free, used)
	return q, n, true
}

// lists are all pages that no one uses, 200 a list.
func (p pages) lists() [][]int {
	var lists [][]int
	for i, n := range p.all("fl") {
		if i%200 == 0 {
			lists = append(lists, nil)
		}
		lists[len(lists)-1] = append(lists[len(lists)-1], n)
	}
	return lists
}

// model is a store as the promises' words say it, on a device of its own.
type model struct {
	d           *device.Device
	super       api.Page
	lists       []int
	start, now  pages
	fresh       map[int]int // what was laid since the last commit, and how often
	givenOut    map[int]int // what Take gave out since the last commit, and was not back since
	tookOneUsed bool
}

func (m *model) abort() {
	m.now = m.start
	clear(m.fresh)
	clear(m.givenOut)
}

// ended is an error, behind an Abort if it is none of those that leave all as it is.
func (m *model) ended(e api.Errno) api.Errno {
	if e != api.OK && e != api.ErrArg && e != api.ErrPage {
		m.abort()
	}
	return e
}

func (m *model) take() (int, bool) {
	now, n, ok := m.now.taken(m.d.Sectors())
	if !ok {
		return 0, false
	}
	m.now = now
	m.tookOneUsed = m.tookOneUsed || m.givenOut[n] != 0 || n < len(m.start) && m.start[n] == used
	m.givenOut[n]++
	return n, true
}

func (m *model) write(n int, p api.Page) api.Errno {
	b, e := page.Encode(n, p)
	if e != api.OK {
		return e
	}
	return m.d.Write(n, b)
}

func (m *model) lay(old int, p api.Page) (int, api.Errno) {
	if page.Check(p) != api.OK || p.Kind == api.PSuper {
		return 0, api.ErrPage
	}
	n := old
	if m.fresh[old] == 0 {
		at, ok := m.take()
		if !ok {
			return 0, m.ended(api.ErrFull)
		}
		given, ok := m.now.turned(old, used, limbo)
		if old != 0 && !ok {
			m.now, _ = m.now.turned(at, used, free)
			delete(m.givenOut, at)
			return 0, api.ErrArg
		}
		m.now, n = given, at
	}
	m.fresh[n]++
	if e := m.write(n, p); e != api.OK {
		return 0, m.ended(e)
	}
	return n, api.OK
}

func (m *model) drop(n int) api.Errno {
	to := byte(limbo)
	if m.fresh[n] != 0 {
		to = free
	}
	now, ok := m.now.turned(n, used, to)
	if !ok {
		return api.ErrArg
	}
	m.now = now
	if to == free {
		delete(m.givenOut, n)
	}
	delete(m.fresh, n)
	return api.OK
}

// listed are the pages of the lists, all of them written.
func (m *model) listed() ([]int, api.Errno) {
	var own []int
	for len(own) < len(m.now.lists()) {
		n, ok := m.take()
		if !ok {
			return nil, api.ErrFull
		}
		own = append(own, n)
	}
	lists := append(m.now.lists(), nil, nil)
	for i, n := range own {
		p := api.Page{Kind: api.PFree, Pages: lists[i]}
		if i+1 < len(own) {
			p.Next = own[i+1]
		}
		if e := m.write(n, p); e != api.OK {
			return nil, e
		}
	}
	return own, m.d.Sync()
}

func (m *model) commit(root, depth, count int) api.Errno {
	s := api.Page{Kind: api.PSuper, Epoch: m.super.Epoch + 1, Root: root, Depth: depth, Count: count, High: len(m.now)}
	if page.Check(s) != api.OK {
		return api.ErrPage
	}
	for _, n := range m.lists {
		m.drop(n)
	}
	own, e := m.listed()
	if e != api.OK {
		return m.ended(e)
	}
	s.High = len(m.now)
	if len(own) > 0 {
		s.Next = own[0]
	}
	if e := m.write(int(s.Epoch%2), s); e != api.OK {
		return m.ended(e)
	}
	if e := m.d.Sync(); e != api.OK {
		return m.ended(e)
	}
	m.super, m.lists = s, own
	m.start = pages(strings.ReplaceAll(string(m.now), string(rune(limbo)), string(rune(free))))
	m.abort()
	return api.OK
}

func (m *model) page(n int) (api.Page, api.Errno) {
	b, e := m.d.Read(n)
	if e != api.OK {
		return api.Page{}, e
	}
	p, e := page.Decode(n, b)
	if p.Kind == api.PSuper {
		return api.Page{}, api.ErrPage
	}
	return p, e
}

func modelFormat(d *device.Device) (*model, api.Errno) {
	m := &model{d: d, start: "ss", now: "ss", fresh: map[int]int{}, givenOut: map[int]int{}}
	return m, m.commit(0, 0, 0)
}

// leading are the superblocks that a device holds, of the sector 0 ahead of that of the sector 1.
func leading(d *device.Device) ([]api.Page, api.Errno) {
	var l []api.Page
	for n := range 2 {
		b, e := d.Read(n)
		if e != api.OK {
			return nil, e
		}
		if p, e := page.Decode(n, b); e == api.OK {
			l = append(l, p)
		}
	}
	return l, api.OK
}

// modelOpen keeps book of each page: what a list tells of it, and that a list lies in it, each at most once.
func modelOpen(d *device.Device) (*model, api.Errno) {
	l, e := leading(d)
	if e != api.OK {
		return nil, e
	}
	if len(l) == 0 {
		return nil, api.ErrNone
	}
	m := &model{d: d, super: l[0], fresh: map[int]int{}, givenOut: map[int]int{}}
	if len(l) == 2 && l[1].Epoch > l[0].Epoch {
		m.super = l[1]
	}
	if m.super.High > d.Sectors() {
		return nil, api.ErrStore
	}
	now := []byte("ss" + strings.Repeat("u", m.super.High-2))
	above := 1
	for n := m.super.Next; n != 0; {
		b, _ := d.Read(n)
		p, e := page.Decode(n, b)
		if e != api.OK || p.Kind != api.PFree || n >= len(now) || now[n] != used {
			return nil, api.ErrStore
		}
		now[n] = 'L'
		for _, one := range p.Pages {
			if one <= above || one >= len(now) || now[one] != used {
				return nil, api.ErrStore
			}
			now[one], above = free, one
		}
		m.lists = append(m.lists, n)
		n = p.Next
	}
	m.start = pages(strings.ReplaceAll(string(now), "L", "u"))
	m.abort()
	return m, api.OK
}

// both are a store, and the model of it, told the same things.
type both struct {
	t     *testing.T
	s     *store.Store
	m     *model
	quiet bool // what the calls leave is not asked: for long runs that only lead somewhere
}

// copied is another device that stands as one does, but for its fuse.
func copied(d *device.Device) *device.Device {
	c, _ := device.New(d.Sectors())
	for _, kept := range d.Lasting() {
		c.Write(kept.Sector, kept.Data)
	}
	c.Sync()
	for _, kept := range d.Cached() {
		c.Write(kept.Sector, kept.Data)
	}
	if d.Off() {
		c.Fuse(0)
		c.Sync()
	}
	return c
}

func formatted(t *testing.T, sectors int) *both {
	t.Helper()
	d, e := device.New(sectors)
	if e != api.OK {
		t.Fatalf("New(%d): %d", sectors, int(e))
	}
	b := &both{t: t}
	twin := copied(d)
	b.s, e = store.Format(d)
	if e != api.OK {
		t.Fatalf("Format: %d", int(e))
	}
	b.m, _ = modelFormat(twin)
	b.agree("Format")
	return b
}

// opened is what Open tells of a device, held against the model's: nil where both are told the same error.
func opened(t *testing.T, what string, d *device.Device) (*both, api.Errno) {
	t.Helper()
	was, cached := d.Lasting(), d.Cached()
	m, want := modelOpen(copied(d))
	s, e := store.Open(d)
	if e != want || (s == nil) != (e != api.OK) {
		t.Fatalf("%s: Open = %v, %d; want %d", what, s, int(e), int(want))
	}
	if !sameKept(was, d.Lasting()) || !sameKept(cached, d.Cached()) {
		t.Errorf("%s: Open has written", what)
	}
	if e != api.OK {
		return nil, e
	}
	b := &both{t: t, s: s, m: m}
	b.agree(what + ", Open")
	return b, e
}

func sameKept(a, b []api.Kept) bool {
	return slices.EqualFunc(a, b, func(x, y api.Kept) bool { return x.Sector == y.Sector && slices.Equal(x.Data, y.Data) })
}

func samePage(a, b api.Page) bool {
	return a.Kind == b.Kind && slices.Equal(a.Pairs, b.Pairs) && slices.Equal(a.Keys, b.Keys) && slices.Equal(a.Kids, b.Kids) && slices.Equal(a.Pages, b.Pages) && a.Next == b.Next &&
		a.Epoch == b.Epoch && a.Root == b.Root && a.Depth == b.Depth && a.Count == b.Count && a.High == b.High
}

func samePool(a, b api.Pool) bool {
	return a.High == b.High && slices.Equal(a.Free, b.Free) && slices.Equal(a.Limbo, b.Limbo)
}

// spoilt writes over a list, its spare room too: nobody else may tell.
func spoilt(lists ...[]int) {
	for i, l := range lists {
		l = l[:cap(l)]
		for j := range l {
			l[j] = -1000 - i
		}
	}
}

// agree holds all that a store tells against the model, and what lies on its device.
func (b *both) agree(what string) {
	b.t.Helper()
	for range 2 { // once more, behind what was told is written over: it is memory of its own
		lists, pool, lead := b.s.Lists(), b.s.Pool(), b.s.Super()
		if !samePage(lead, b.m.super) {
			b.t.Errorf("%s: Super %v, want %v", what, lead, b.m.super)
		}
		if !slices.Equal(lists, b.m.lists) {
			b.t.Errorf("%s: Lists %v, want %v", what, lists, b.m.lists)
		}
		if !samePool(pool, b.m.now.pool()) {
			b.t.Errorf("%s: Pool %v, want %v", what, pool, b.m.now.pool())
		}
		spoilt(lists, pool.Free, pool.Limbo)
	}
	d, twin := b.s.Device(), b.m.d
	if !sameKept(d.Lasting(), twin.Lasting()) || !sameKept(d.Cached(), twin.Cached()) || d.Off() != twin.Off() {
		b.t.Errorf("%s: the device is another one", what)
	}
}

// behind is agree behind a call that may write: of the last commit nothing is written, and no page is given out twice.
func (b *both) behind(what string) {
	b.t.Helper()
	if b.quiet {
		return
	}
	b.agree(what)
	d := b.s.Device()
	for _, kept := range d.Cached() {
		n := kept.Sector
		if n < len(b.m.start) && b.m.start[n] == used || !d.Off() && n < 2 {
			b.t.Errorf("%s: the page %d of the last commit is written", what, n)
		}
	}
	if b.m.tookOneUsed {
		b.t.Errorf("%s: a page is given out that is used", what)
	}
}

// lay, drop, commit and abort are the calls, each held against the model's.
func (b *both) lay(old int, p api.Page) (int, api.Errno) {
	b.t.Helper()
	n, e := b.s.Lay(old, p)
	m, want := b.m.lay(old, p)
	if n != m || e != want {
		b.t.Errorf("Lay(%d, %v) = %d, %d; want %d, %d", old, p, n, int(e), m, int(want))
	}
	b.behind("Lay")
	return n, e
}

func (b *both) drop(n int) api.Errno {
	b.t.Helper()
	e, want := b.s.Drop(n), b.m.drop(n)
	if e != want {
		b.t.Errorf("Drop(%d) = %d; want %d", n, int(e), int(want))
	}
	b.behind("Drop")
	return e
}

func (b *both) commit(root, depth, count int) api.Errno {
	b.t.Helper()
	e, want := b.s.Commit(root, depth, count), b.m.commit(root, depth, count)
	if e != want {
		b.t.Errorf("Commit(%d, %d, %d) = %d; want %d", root, depth, count, int(e), int(want))
	}
	b.behind("Commit")
	return e
}

func (b *both) abort() {
	b.t.Helper()
	b.s.Abort()
	b.m.abort()
	b.behind("Abort")
}

// allPages holds what each sector tells against the model, and those that there are not.
func (b *both) allPages(what string) {
	b.t.Helper()
	for n := -1; n <= b.m.d.Sectors(); n++ {
		p, e := b.s.Page(n)
		want, we := b.m.page(n)
		if !samePage(p, want) || e != we {
			b.t.Errorf("%s: Page(%d) = %v, %d; want %v, %d", what, n, p, int(e), want, int(we))
		}
	}
}

func (b *both) fuse(acts int) {
	b.s.Device().Fuse(acts)
	b.m.d.Fuse(acts)
}

func (b *both) restart(keep []int, torn, cut int) {
	b.s.Device().Restart(keep, torn, cut)
	b.m.d.Restart(keep, torn, cut)
}

// mixer gives numbers in no plain order, the same ones in each run.
type mixer uint64

func (x *mixer) upTo(n int) int {
	*x = *x*6364136223846793005 + 1442695040888963407
	return int(uint64(*x)>>33) % n
}

// page is any one: a leaf, a branch, a list, now and then one that may not be, or a superblock.
func (x *mixer) page() api.Page {
	key := string(rune('a' + x.upTo(26)))
	switch x.upTo(12) {
	case 0:
		return api.Page{Kind: api.PLeaf}
	case 1:
		return api.Page{Kind: api.PSuper, High: 2}
	case 2:
		return api.Page{Kind: api.PFree, Pages: []int{2, 3 + x.upTo(9)}}
	case 3, 4:
		return api.Page{Kind: api.PBranch, Keys: []string{key}, Kids: []int{2 + x.upTo(9), 2 + x.upTo(9)}}
	}
	return api.Page{Kind: api.PLeaf, Pairs: []api.Pair{{Key: key, Val: strings.Repeat(key, x.upTo(100))}}}
}

// step tells both something, most of it what may be.
func (b *both) step(x *mixer) {
	b.t.Helper()
	n := x.upTo(b.m.d.Sectors()+3) - 1
	switch x.upTo(16) {
	case 0, 1, 2, 3:
		b.lay(0, x.page())
	case 4, 5, 6, 7:
		if l := b.m.now.all("u"); len(l) > 0 {
			n = l[x.upTo(len(l))]
		}
		b.lay(n, x.page())
	case 8:
		b.lay(n, x.page())
	case 9:
		b.drop(n)
	case 10, 11:
		if l := b.m.now.all("u"); len(l) > 0 {
			n = l[x.upTo(len(l))]
		}
		b.drop(n)
	case 12, 13:
		b.commit(2+x.upTo(9), 1+x.upTo(20), 1+x.upTo(1000))
	case 14:
		b.commit(x.upTo(3), x.upTo(3)-1, x.upTo(3)-1)
	case 15:
		b.abort()
	}
}

// P7.1 to P7.7: whatever a store is told, it tells what the model tells, with the power gone at any act, and back.
func TestStoreInUse(t *testing.T) {
	for seed := range 400 {
		x := mixer(seed)
		b := formatted(t, 2+seed%40)
		for i := range 80 {
			switch x.upTo(20) {
			case 0:
				b.fuse(x.upTo(12) - 1)
			case 1:
				b.allPages("in use")
			case 2:
				b.restart([]int{x.upTo(20), x.upTo(20), x.upTo(2)}, x.upTo(20), x.upTo(1100)-10)
				b.tellOpen("Open in use")
			}
			b.step(&x)
			if t.Failed() {
				t.Fatalf("seed %d, step %d", seed, i)
			}
		}
	}
}

// tellOpen opens the device anew: both go on behind that, if there is something to open.
func (b *both) tellOpen(what string) {
	b.t.Helper()
	if again, e := opened(b.t, what, b.s.Device()); e == api.OK {
		b.s, b.m = again.s, again.m
	}
}
