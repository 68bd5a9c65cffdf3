package tree_test

import (
	"maps"
	"slices"
	"strconv"
	"testing"

	"cambist/api"
	"cambist/device"
	"cambist/store"
	"cambist/tree"
)

// copied is another device that stands as one does, with the power back on.
func copied(d *device.Device, keep []int, torn, cut int) *device.Device {
	c, _ := device.New(d.Sectors())
	for _, kept := range d.Lasting() {
		c.Write(kept.Sector, kept.Data)
	}
	c.Sync()
	for _, kept := range d.Cached() {
		c.Write(kept.Sector, kept.Data)
	}
	c.Restart(keep, torn, cut)
	return c
}

// which is the one of some states that a device is opened with.
func which(t *testing.T, what string, d *device.Device, states ...map[string]string) int {
	t.Helper()
	s, e := store.Open(d)
	if e != api.OK {
		t.Fatalf("%s: Open: %d", what, int(e))
	}
	r, _ := tree.Of(s)
	pairs := formOf(t, what, r).pairs
	at := slices.IndexFunc(states, func(m map[string]string) bool { return slices.Equal(pairs, pairsOf(m)) })
	if at < 0 {
		t.Errorf("%s: none of the states is found", what)
	}
	return at
}

// begun is a tree that was kept twice, and changed since then: all kinds of pages lie on its device.
func begun(t *testing.T) *life {
	l := filled(t, 120, 60)
	l.keep()
	for i := range 20 {
		l.cut(key(i * 3))
	}
	l.keep()
	for i := range 12 {
		l.set(key(i*5)+"+", "new")
		l.cut(key(i*4 + 1))
	}
	return l
}

// P8.6, W3: a commit that is cut at each of its acts, with some of its pages kept and a page torn: the tree is the one that was kept, or the one that was cut, wholly.
func TestRestartOfKeep(t *testing.T) {
	found := map[int]int{}
	for acts := 0; ; acts++ {
		l := begun(t)
		before, behind := maps.Clone(l.last.pairs), maps.Clone(l.now)
		l.device().Fuse(acts)
		if e := l.keep(); e == api.OK {
			if acts < 3 {
				t.Errorf("a commit of %d acts", acts)
			}
			break
		}
		var cached []int
		for _, c := range l.device().Cached() {
			cached = append(cached, c.Sector)
		}
		for seed := range 40 {
			x := mixer(seed)
			keep := slices.DeleteFunc(slices.Clone(cached), func(int) bool { return x.upTo(4) < seed/10 })
			torn, cut := -1, x.upTo(api.Size+1)
			if len(cached) > 0 {
				torn = cached[x.upTo(len(cached))]
			}
			what := strconv.Itoa(acts) + " acts, seed " + strconv.Itoa(seed)
			found[which(t, what, copied(l.device(), keep, torn, cut), before, behind)]++
		}
		for cut := range api.Size + 1 {
			what := strconv.Itoa(acts) + " acts, the superblock torn at " + strconv.Itoa(cut)
			found[which(t, what, copied(l.device(), nil, int(l.r.Store().Super().Epoch+1)%2, cut), before, behind)]++
			if t.Failed() {
				t.FailNow()
			}
		}
	}
	if found[0] == 0 || found[1] == 0 {
		t.Errorf("found %v", found)
	}
}

// P8.6: what is set and cut between two commits is gone behind a restart, whatever of it lasts.
func TestRestartBetweenKeeps(t *testing.T) {
	l := begun(t)
	for i := range 40 {
		l.set(key(i*7), "newer")
		l.cut(key(i * 2))
		var all []int
		for _, c := range l.device().Cached() {
			all = append(all, c.Sector)
		}
		for _, keep := range [][]int{nil, all, all[:len(all)/2], all[len(all)/2:]} {
			which(t, "between commits", copied(l.device(), keep, all[0], 500), l.last.pairs)
		}
	}
}
