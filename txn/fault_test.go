package txn_test

import (
	"math"
	"slices"
	"strconv"
	"testing"

	"cambist/api"
	"cambist/device"
	"cambist/store"
	"cambist/tree"
	"cambist/txn"
	"cambist/walk"
)

// leaf is a leaf of keys, and branch one of keys between kids.
func leaf(keys ...string) api.Page {
	p := api.Page{Kind: api.PLeaf}
	for _, k := range keys {
		p.Pairs = append(p.Pairs, api.Pair{Key: k, Val: "of " + k})
	}
	return p
}

func branch(keys []string, kids ...int) api.Page {
	return api.Page{Kind: api.PBranch, Keys: keys, Kids: kids}
}

// pairs are the entries of leaves of keys.
func pairs(keys ...string) []api.Pair { return leaf(keys...).Pairs }

// threeLeaves is a tree of three leaves, the pages 2 to 4, below the page 5.
func threeLeaves(t *testing.T, sectors int) *tree.Tree {
	t.Helper()
	d, _ := device.New(sectors)
	s, _ := store.Format(d)
	for i, p := range []api.Page{leaf("a", "b", "c"), leaf("f", "g", "h"), leaf("m", "n", "o"), branch(texts("f", "m"), 2, 3, 4)} {
		if n, e := s.Lay(0, p); n != 2+i || e != api.OK {
			t.Fatalf("Lay: %d, %d", n, int(e))
		}
	}
	is(t, "Commit", s.Commit(5, 2, 9), api.OK)
	r, e := tree.Of(s)
	is(t, "Of", e, api.OK)
	return r
}

// spoil turns a byte of a page; twice is not at all.
func spoil(t *testing.T, r *tree.Tree, n int) {
	t.Helper()
	is(t, "Spoil", r.Store().Device().Spoil(n, 30, 1), api.OK)
}

// off lets the power go.
func off(t *testing.T, r *tree.Tree) *device.Device {
	t.Helper()
	d := r.Store().Device()
	d.Fuse(0)
	is(t, "Sync", d.Sync(), api.ErrDown)
	return d
}

// breaks holds that a range is told an error, and nothing else.
func breaks(t *testing.T, x *txn.Txn, from, to string, most int, want api.Errno) {
	t.Helper()
	if l, e := x.Range(from, to, most); len(l) != 0 || e != want {
		t.Errorf("Range(%q, %q, %d) = %v, %d; want %d", from, to, most, l, int(e), int(want))
	}
}

// P10.2, P8.3, P9.2: a page that is none is told where it is asked; a key that is written needs no page. The transaction goes on.
func TestSpoiltLeaf(t *testing.T) {
	r := threeLeaves(t, 64)
	x := begun(t, r)
	is(t, "Set", x.Set("g", "new"), api.OK)
	is(t, "Cut", x.Cut("h"), api.OK)
	spoil(t, r, 3)
	for range 2 {
		gets(t, x, "a", "of a", true)
		gets(t, x, "g", "new", true)
		gets(t, x, "h", "", false)
		gets(t, x, "n", "of n", true)
		for _, k := range texts("f", "fa", "i") {
			if val, has, e := x.Get(k); val != "" || has || e != api.ErrTree {
				t.Errorf("Get(%q) = %q, %v, %d", k, val, has, int(e))
			}
		}
		ranges(t, x, "", "", 3, pairs("a", "b", "c"))
		ranges(t, x, "", "c", 9, pairs("a", "b"))
		ranges(t, x, "m", "", 9, pairs("m", "n", "o"))
		ranges(t, x, "g", "", 0, nil)
		breaks(t, x, "", "", 4, api.ErrTree)
		breaks(t, x, "", "f", 9, api.ErrTree) // the first entry that is not before to is asked
		breaks(t, x, "g", "h", 1, api.ErrTree)
		breaks(t, x, "f", "", math.MaxInt, api.ErrTree)
		writes(t, x, "g", "h")
	}
	spoil(t, r, 3)
	want := slices.Concat(pairs("a", "b", "c", "f"), []api.Pair{{Key: "g", Val: "new"}}, pairs("m", "n", "o"))
	ranges(t, x, "", "", 9, want)
	is(t, "Commit", x.Commit(), api.OK)
	holds(t, "behind the commit", r, 3, want)
}

// P10.2, P9.2: a range asks for no page that none of its entries needs, its own writes ahead of it or in it or not.
func TestRangeAsksNoFurther(t *testing.T) {
	for what, write := range map[string]func(x *txn.Txn) []api.Pair{
		"nothing written": func(x *txn.Txn) []api.Pair { return pairs("a", "b", "c") },
		"the last one set": func(x *txn.Txn) []api.Pair {
			x.Set("c", "new")
			return append(pairs("a", "b"), api.Pair{Key: "c", Val: "new"})
		},
		"one cut":           func(x *txn.Txn) []api.Pair { x.Cut("a"); return pairs("b", "c") },
		"one more set":      func(x *txn.Txn) []api.Pair { x.Set("aa", "of aa"); return pairs("a", "aa", "b", "c") },
		"set far behind":    func(x *txn.Txn) []api.Pair { x.Set("z", "new"); x.Cut("y"); return pairs("a", "b", "c") },
		"cut and set ahead": func(x *txn.Txn) []api.Pair { x.Cut("0"); x.Set("1", "of 1"); return pairs("1", "a", "b", "c") },
		"each of a leaf is so": func(x *txn.Txn) []api.Pair {
			for _, k := range texts("a", "b", "c") {
				x.Set(k, "of "+k)
			}
			return pairs("a", "b", "c")
		},
	} {
		r := threeLeaves(t, 64)
		x := begun(t, r)
		want := write(x)
		spoil(t, r, 3)
		for most := range len(want) + 1 {
			ranges(t, x, "", "", most, want[:most])
		}
		breaks(t, x, "", "", len(want)+1, api.ErrTree)
		if t.Failed() {
			t.Fatal(what)
		}
	}
	r := threeLeaves(t, 64)
	x := begun(t, r)
	is(t, "Cut", x.Cut("h"), api.OK)
	spoil(t, r, 4)
	ranges(t, x, "d", "h", 9, pairs("f", "g")) // though h is not seen, it ends the range
	breaks(t, x, "d", "i", 9, api.ErrTree)
}

// P10.2: a page that is met twice.
func TestMetTwice(t *testing.T) {
	d, _ := device.New(32)
	s, _ := store.Format(d)
	s.Lay(0, leaf("a", "b", "c"))
	s.Lay(0, branch(texts("f"), 2, 2))
	is(t, "Commit", s.Commit(3, 2, 3), api.OK)
	r, _ := tree.Of(s)
	x := begun(t, r)
	is(t, "Set", x.Set("b", "of b"), api.OK)
	ranges(t, x, "", "", 3, pairs("a", "b", "c"))
	breaks(t, x, "", "", 4, api.ErrTree)
}

// P10.2, P8.3: a Get that is told an error brings the tree back, but not the transaction; a Range brings back neither.
func TestGetBringsTheTreeBack(t *testing.T) {
	r := threeLeaves(t, 64)
	is(t, "Set", r.Set("b", "not kept"), api.OK)
	x := begun(t, r)
	is(t, "Set", x.Set("c", "new"), api.OK)
	spoil(t, r, 4)
	breaks(t, x, "m", "", 9, api.ErrTree)
	gets(t, x, "b", "not kept", true)
	if val, has, e := x.Get("n"); val != "" || has || e != api.ErrTree {
		t.Errorf("Get = %q, %v, %d", val, has, int(e))
	}
	spoil(t, r, 4)
	gets(t, x, "b", "of b", true)
	gets(t, x, "c", "new", true)
	is(t, "Commit", x.Commit(), api.OK)
	holds(t, "behind the commit", r, 3, slices.Concat(pairs("a", "b"), []api.Pair{{Key: "c", Val: "new"}}, pairs("f", "g", "h", "m", "n", "o")))
}

// P10.2: without power what is written is told, and may be written; all that needs a page is told so.
func TestDown(t *testing.T) {
	r := threeLeaves(t, 64)
	x := begun(t, r)
	is(t, "Set", x.Set("b", "new"), api.OK)
	d := off(t, r)
	is(t, "Cut", x.Cut("c"), api.OK)
	is(t, "Set", x.Set("d", ""), api.OK)
	gets(t, x, "b", "new", true)
	gets(t, x, "c", "", false)
	gets(t, x, "d", "", true)
	writes(t, x, "b", "c", "d")
	ranges(t, x, "", "", 0, nil)
	if val, has, e := x.Get("a"); val != "" || has || e != api.ErrDown {
		t.Errorf("Get = %q, %v, %d", val, has, int(e))
	}
	breaks(t, x, "", "", 1, api.ErrDown)
	breaks(t, x, "b", "c", 1, api.ErrDown)
	d.Restart(nil, -1, 0)
	want := slices.Concat(pairs("a"), []api.Pair{{Key: "b", Val: "new"}, {Key: "d", Val: ""}}, pairs("f", "g", "h", "m", "n", "o"))
	ranges(t, x, "", "", 99, want)
	is(t, "Commit", x.Commit(), api.OK)
	holds(t, "behind the commit", r, 3, want)
}

// refused holds that a commit was told an error: the tree is that of its last commit, the pool too, and the transaction is over.
func refused(t *testing.T, what string, r *tree.Tree, x *txn.Txn, got, want api.Errno, epoch uint64, entries []api.Pair) {
	t.Helper()
	is(t, what+": Commit", got, want)
	refuses(t, what, x, api.ErrDone)
	holds(t, what, r, epoch, entries)
	last := r.Store().Pool()
	r.Store().Abort()
	if pool := r.Store().Pool(); pool.High != last.High || !slices.Equal(pool.Free, last.Free) || !slices.Equal(pool.Limbo, last.Limbo) {
		t.Errorf("%s: the pool is %v, not the last commit's %v", what, last, pool)
	}
}

// P10.3, R2: the first error, by the keys' order, is the one that is told, and nothing is done.
func TestFirstError(t *testing.T) {
	for _, c := range []struct {
		what     string
		set, cut string
		spoilt   int
		want     api.Errno
	}{
		{"a page that is none, ahead of none that is left", "n", "b", 2, api.ErrTree},
		{"no page left, ahead of one that is none", "b", "n", 4, api.ErrFull},
		{"a page that is none, ahead of none that is left, to be set", "b", "n", 2, api.ErrTree},
		{"no page left, to be cut, ahead of one that is none", "n", "b", 4, api.ErrFull},
	} {
		r := threeLeaves(t, 6)
		x := begun(t, r)
		is(t, "Set", x.Set(c.set, "new"), api.OK)
		is(t, "Cut", x.Cut(c.cut), api.OK)
		spoil(t, r, c.spoilt)
		e := x.Commit()
		spoil(t, r, c.spoilt)
		refused(t, c.what, r, x, e, c.want, 2, pairs("a", "b", "c", "f", "g", "h", "m", "n", "o"))
	}
}

// P10.3: a page that is none, behind writes that were done: they are taken back, and what the tree was told since its last commit, too.
func TestTreeIsBroughtBack(t *testing.T) {
	r := threeLeaves(t, 64)
	is(t, "Set", r.Set("b", "not kept"), api.OK)
	x := begun(t, r)
	for _, k := range texts("0", "a", "ba", "c", "g", "h", "n") {
		is(t, "Set", x.Set(k, "new"), api.OK)
	}
	is(t, "Cut", x.Cut("f"), api.OK)
	spoil(t, r, 4)
	e := x.Commit()
	spoil(t, r, 4)
	refused(t, "a page behind", r, x, e, api.ErrTree, 2, pairs("a", "b", "c", "f", "g", "h", "m", "n", "o"))
}

// P10.3: no page is left, however many there are: all is done, or nothing is. What is refused does not stand in the way of less.
func TestFull(t *testing.T) {
	done := 0
	for sectors := 20; sectors < 70; sectors++ {
		r := kept(t, sectors, 20)
		was := make([]api.Pair, 0, 60)
		for i := range 20 {
			was = append(was, api.Pair{Key: key(i), Val: strconv.Itoa(i)})
		}
		x := begun(t, r)
		for i := range 60 {
			is(t, "Set", x.Set(key(i), "new"), api.OK)
		}
		what := strconv.Itoa(sectors) + " sectors"
		if e := x.Commit(); e != api.OK {
			refused(t, what, r, x, e, api.ErrFull, 2, was)
			less := begun(t, r)
			is(t, "Set", less.Set(key(3), "less"), api.OK)
			is(t, what+": less", less.Commit(), api.OK)
			was[3].Val = "less"
			holds(t, what+", less", r, 3, was)
			continue
		}
		done++
		var now []api.Pair
		for i := range 60 {
			now = append(now, api.Pair{Key: key(i), Val: "new"})
		}
		holds(t, what, r, 3, now)
	}
	if done == 0 || done == 50 {
		t.Errorf("%d of 50 are done", done)
	}
}

// P10.3: the power goes at each of a commit's acts: the tree that is there goes on with its last commit.
func TestCommitWithoutPower(t *testing.T) {
	for acts := 0; ; acts++ {
		r := kept(t, 200, 60)
		was, e := walk.Range(r, "", "", 99)
		is(t, "Range", e, api.OK)
		is(t, "Set", r.Set("z", "not kept"), api.OK)
		x := begun(t, r)
		for i := range 20 {
			is(t, "Set", x.Set(key(i*3)+"+", "new"), api.OK)
			is(t, "Cut", x.Cut(key(i*2)), api.OK)
		}
		d := r.Store().Device()
		d.Fuse(acts)
		e = x.Commit()
		if e == api.OK {
			if acts < 6 {
				t.Errorf("a commit of %d acts", acts)
			}
			break
		}
		if !d.Off() {
			t.Errorf("%d acts: the power is there", acts)
		}
		d.Restart(nil, -1, 0)
		refused(t, strconv.Itoa(acts)+" acts", r, x, e, api.ErrDown, 2, was)
		again := begun(t, r)
		is(t, "Set", again.Set(key(0), "again"), api.OK)
		is(t, "Commit", again.Commit(), api.OK)
		was[0].Val = "again"
		holds(t, strconv.Itoa(acts)+" acts, again", r, 3, was)
	}
}
