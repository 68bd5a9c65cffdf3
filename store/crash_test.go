package store_test

import (
	"maps"
	"slices"
	"strconv"
	"testing"

	"cambist/api"
	"cambist/device"
	"cambist/store"
)

// snapshot is all that a commit has: what the store tells of it, and what lies in its pages.
type snapshot struct {
	super api.Page
	lists []int
	pool  api.Pool
	held  map[int]api.Page
}

func (m *model) snapshot() snapshot {
	s := snapshot{super: m.super, lists: m.lists, pool: m.start.pool(), held: map[int]api.Page{}}
	for _, n := range m.start.all("u") {
		s.held[n], _ = m.page(n)
	}
	return s
}

// committed is what a commit would leave, if the power stayed.
func (m *model) committed(root, depth, count int) snapshot {
	c := &model{d: copied(m.d), super: m.super, lists: m.lists, start: m.start, now: m.now, fresh: maps.Clone(m.fresh), givenOut: maps.Clone(m.givenOut)}
	c.commit(root, depth, count)
	return c.snapshot()
}

// found tells whether a device is opened as a snapshot says, and nothing of it was written since.
func (s snapshot) found(t *testing.T, d *device.Device) bool {
	t.Helper()
	o, e := store.Open(d)
	if e != api.OK || !samePage(o.Super(), s.super) || !slices.Equal(o.Lists(), s.lists) || !samePool(o.Pool(), s.pool) {
		return false
	}
	for n, want := range s.held {
		if p, e := o.Page(n); e != api.OK || !samePage(p, want) {
			t.Errorf("the Epoch %d is opened, and its page %d is another one: %v, %d", s.super.Epoch, n, p, int(e))
		}
	}
	return true
}

// life is a store whose power goes, again and again: the last commit that was told OK, and the one that was cut, if one was.
type life struct {
	*both
	last snapshot
	cut  []snapshot
}

// commits commits the least page that is used, or none.
func (l *life) commits(count int) {
	l.t.Helper()
	root, depth := 0, 0
	if pages := l.m.now.all("u"); len(pages) > 0 {
		root, depth, count = pages[0], 1, count+1
	} else {
		count = 0
	}
	next := l.m.committed(root, depth, count)
	switch l.commit(root, depth, count) {
	case api.OK:
		l.last = l.m.snapshot()
	case api.ErrDown:
		l.cut = append(l.cut, next)
	}
}

// step tells the store something; what may not be told at all is left to other tests.
func (l *life) step(x *mixer) {
	l.t.Helper()
	n := 0
	if pages := l.m.now.all("u"); len(pages) > 0 {
		n = pages[x.upTo(len(pages))]
	}
	switch x.upTo(10) {
	case 0, 1, 2:
		l.lay(0, leaf("new"+strconv.Itoa(x.upTo(1000))))
	case 3, 4, 5:
		l.lay(n, leaf("old"+strconv.Itoa(x.upTo(1000))))
	case 6:
		l.drop(n)
	case 7, 8:
		l.commits(x.upTo(1000))
	case 9:
		if x.upTo(4) == 0 {
			l.abort()
		}
	}
}

// opens holds what is found behind one restart: the last commit, or the one that was cut; and the same once more.
func (l *life) opens(what string, d *device.Device) {
	l.t.Helper()
	var which []snapshot
	for _, s := range append([]snapshot{l.last}, l.cut...) {
		if s.found(l.t, d) && s.found(l.t, d) {
			which = append(which, s)
		}
	}
	if len(which) != 1 {
		l.t.Errorf("%s: %d of the last commit, Epoch %d, and of %d that were cut, are found", what, len(which), l.last.super.Epoch, len(l.cut))
	}
}

// choice is what a restart keeps, and tears.
type choice struct {
	keep      []int
	torn, cut int
}

// choices are some of all that there are: nothing is kept, all is, and others.
func choices(x *mixer, d *device.Device, many int) []choice {
	var cached []int
	for _, kept := range d.Cached() {
		cached = append(cached, kept.Sector)
	}
	l := []choice{{torn: -1}, {keep: cached, torn: -1}}
	for range many {
		c := choice{torn: -1, cut: x.upTo(api.Size + 1)}
		for _, n := range cached {
			if x.upTo(2) == 0 {
				c.keep = append(c.keep, n)
			} else if x.upTo(2) == 0 {
				c.torn = n
			}
		}
		if x.upTo(2) == 0 {
			c.cut = []int{1, 7, 8, 9, 503, 504, 511, 512, 1007, 1015, 1016, 1022, 1023}[x.upTo(13)]
		}
		l = append(l, c)
	}
	return l
}

// ends is the power that goes, and comes back: each of some restarts is held on a device of its own, and with the last of them it goes on.
func (l *life) ends(x *mixer) {
	l.t.Helper()
	all := choices(x, l.s.Device(), 12)
	for _, c := range all {
		d := copied(l.s.Device())
		d.Restart(c.keep, c.torn, c.cut)
		l.opens("a restart", d)
	}
	c := all[len(all)-1]
	l.restart(c.keep, c.torn, c.cut)
	l.tellOpen("a restart")
	l.last, l.cut = l.m.snapshot(), nil
}

// P7.8, W3: wherever the power goes, whatever is kept, and one sector torn, again and again: Open finds the last commit that was told OK, or the one that was cut, whole, and no page of it was written since.
func TestRestarts(t *testing.T) {
	for seed := range 60 {
		x := mixer(seed)
		l := &life{both: formatted(t, 4+seed%20)}
		l.last = l.m.snapshot()
		l.fuse(x.upTo(20))
		for range 150 {
			l.step(&x)
			if l.s.Device().Off() {
				l.ends(&x)
				l.fuse(x.upTo(20))
			}
			if t.Failed() {
				t.Fatalf("seed %d", seed)
			}
		}
	}
}

// lived is a store with two commits, and with what a third one is to have: pages laid anew, and in limbo.
func lived(t *testing.T) *life {
	t.Helper()
	l := &life{both: formatted(t, 16).filled(4)}
	l.commits(7)
	l.drop(4)
	l.lay(2, leaf("x"))
	l.commits(8)
	l.lay(3, leaf("y"))
	l.lay(5, leaf("z"))
	return l
}

// P7.8: a commit that is cut at each of its acts, with each choice of what is kept, and the superblock torn at each byte.
func TestRestartOfCommit(t *testing.T) {
	both := map[uint64]int{}
	for acts := range 5 {
		l := lived(t)
		l.fuse(acts)
		l.commits(9)
		if !l.s.Device().Off() {
			if acts != 4 { // a list, a sync, the superblock, a sync
				t.Errorf("a commit of %d acts", acts)
			}
			continue
		}
		cached := l.s.Device().Cached()
		for keep := range 1 << len(cached) {
			var kept []int
			for i, c := range cached {
				if keep>>i&1 != 0 {
					kept = append(kept, c.Sector)
				}
			}
			for _, torn := range cached {
				for cut := 0; cut <= api.Size; cut += 1 + 60*min(torn.Sector/2, 1) {
					d := copied(l.s.Device())
					d.Restart(kept, torn.Sector, cut)
					l.opens(strconv.Itoa(acts)+" acts, torn behind "+strconv.Itoa(cut), d)
					s, _ := store.Open(d)
					both[s.Super().Epoch]++
				}
			}
		}
	}
	if both[3] == 0 || both[4] == 0 || len(both) != 2 {
		t.Errorf("found are the Epochs %v", both)
	}
}

// P7.8: what a call between two commits leaves is gone behind a restart, whatever of it is kept.
func TestRestartBetweenCommits(t *testing.T) {
	l := lived(t)
	for _, c := range []choice{{torn: -1}, {keep: run(0, 15), torn: -1}, {keep: run(0, 4), torn: 7, cut: 600}} {
		d := copied(l.s.Device())
		d.Restart(c.keep, c.torn, c.cut)
		l.opens("between commits", d)
	}
	l.commits(9)
	for _, c := range []choice{{torn: -1}, {keep: run(0, 15), torn: -1}} {
		d := copied(l.s.Device())
		d.Restart(c.keep, c.torn, c.cut)
		l.opens("behind a commit", d)
	}
}
