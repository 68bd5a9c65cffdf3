package txn_test

import (
	"math"
	"slices"
	"strconv"
	"testing"

	"cambist/api"
	"cambist/device"
	"cambist/store"
	"cambist/tree"
	"cambist/txn"
	"cambist/walk"
)

// copied is another device that stands as one does, with the power back on.
func copied(d *device.Device, keep []int, torn, cut int) *device.Device {
	c, _ := device.New(d.Sectors())
	for _, kept := range d.Lasting() {
		c.Write(kept.Sector, kept.Data)
	}
	c.Sync()
	for _, kept := range d.Cached() {
		c.Write(kept.Sector, kept.Data)
	}
	c.Restart(keep, torn, cut)
	return c
}

// opened is the tree that a device holds, and its entries.
func opened(t *testing.T, what string, d *device.Device) []api.Pair {
	t.Helper()
	s, e := store.Open(d)
	if e != api.OK {
		t.Fatalf("%s: Open: %d", what, int(e))
	}
	r, _ := tree.Of(s)
	l, e := walk.Range(r, "", "", math.MaxInt)
	is(t, what+": Range", e, api.OK)
	_, e = walk.Check(r)
	is(t, what+": Check", e, api.OK)
	return l
}

// which is the one of some states that a device is opened with.
func which(t *testing.T, what string, d *device.Device, states ...[]api.Pair) int {
	t.Helper()
	l := opened(t, what, d)
	at := slices.IndexFunc(states, func(state []api.Pair) bool { return slices.Equal(l, state) })
	if at < 0 {
		t.Errorf("%s: none of the states is found", what)
	}
	return at
}

// prepared is a transaction with writes of all kinds, of a tree that was kept twice; and what its tree has ahead of the commit, and behind it.
func prepared(t *testing.T) (r *tree.Tree, x *txn.Txn, before, behind []api.Pair) {
	t.Helper()
	r = kept(t, 120, 60)
	for i := range 20 {
		r.Cut(key(i * 3))
	}
	is(t, "Keep", r.Keep(), api.OK)
	x = begun(t, r)
	for i := range 10 {
		is(t, "Set", x.Set(key(i*5)+"+", "new"), api.OK)
		is(t, "Set", x.Set(key(i*6+1), "changed"), api.OK)
		is(t, "Cut", x.Cut(key(i*6+2)), api.OK)
	}
	before, _ = walk.Range(r, "", "", math.MaxInt)
	behind, e := x.Range("", "", math.MaxInt)
	is(t, "Range", e, api.OK)
	if len(before) != 40 || len(behind) != 40 || slices.Equal(before, behind) {
		t.Fatalf("%v, %v", before, behind)
	}
	return r, x, before, behind
}

// sectors are those that a device's cache holds.
func sectors(d *device.Device) []int {
	var l []int
	for _, c := range d.Cached() {
		l = append(l, c.Sector)
	}
	return l
}

// P10.4, W3: a commit that is cut at each of its acts, with some of its pages kept and one torn: all of the writes are there, or none.
func TestRestartOfCommit(t *testing.T) {
	found := map[int]int{}
	for acts := 0; ; acts++ {
		r, x, before, behind := prepared(t)
		d := r.Store().Device()
		d.Fuse(acts)
		if e := x.Commit(); e == api.OK {
			if acts < 6 {
				t.Errorf("a commit of %d acts", acts)
			}
			break
		}
		cached := sectors(d)
		for seed := range 40 {
			m := mixer(seed)
			keep := slices.DeleteFunc(slices.Clone(cached), func(int) bool { return m.upTo(4) < seed/10 })
			torn, cut := -1, m.upTo(api.Size+1)
			if len(cached) > 0 {
				torn = cached[m.upTo(len(cached))]
			}
			what := strconv.Itoa(acts) + " acts, seed " + strconv.Itoa(seed)
			found[which(t, what, copied(d, keep, torn, cut), before, behind)]++
			if t.Failed() {
				t.FailNow()
			}
		}
		lead := int(r.Store().Super().Epoch+1) % 2
		for _, cut := range []int{0, 1, 2, 3, 5, 9, 20, 500, 1015, 1016, 1020, 1023, 1024} {
			what := strconv.Itoa(acts) + " acts, the superblock torn at " + strconv.Itoa(cut)
			found[which(t, what, copied(d, nil, lead, cut), before, behind)]++
		}
	}
	if found[0] == 0 || found[1] == 0 {
		t.Errorf("found %v", found)
	}
}

// P10.4: till Commit no restart finds any of the writes; from its OK on each finds all of them.
func TestRestartAroundCommit(t *testing.T) {
	r, x, before, behind := prepared(t)
	d := r.Store().Device()
	if at := which(t, "ahead", copied(d, sectors(d), -1, 0), before, behind); at != 0 {
		t.Errorf("ahead of the commit: %d", at)
	}
	is(t, "Commit", x.Commit(), api.OK)
	for _, torn := range []int{-1, 0, 1, 2, 50} {
		if at := which(t, "behind", copied(d, nil, torn, 3), before, behind); at != 1 {
			t.Errorf("behind the commit: %d", at)
		}
	}
	if l := sectors(d); len(l) != 0 {
		t.Errorf("behind the commit %v are not synced", l)
	}
}

// P10.4: an aborted transaction leaves no act behind.
func TestAbortIsNoAct(t *testing.T) {
	r, x, before, _ := prepared(t)
	d := r.Store().Device()
	d.Fuse(0)
	x.Abort()
	if l := sectors(d); d.Off() || len(l) != 0 {
		t.Errorf("off %v, cached %v", d.Off(), l)
	}
	if at := which(t, "aborted", copied(d, nil, -1, 0), before); at != 0 {
		t.Errorf("aborted: %d", at)
	}
}
