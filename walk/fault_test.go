package walk_test

import (
	"math"
	"slices"
	"strconv"
	"testing"

	"cambist/api"
	"cambist/device"
	"cambist/page"
	"cambist/store"
	"cambist/tree"
	"cambist/walk"
)

// keys are texts; leaf is a leaf of keys, and branch one of keys between kids.
func keys(k ...string) []string { return k }

func leaf(keys ...string) api.Page {
	p := api.Page{Kind: api.PLeaf}
	for _, k := range keys {
		p.Pairs = append(p.Pairs, api.Pair{Key: k, Val: "of " + k})
	}
	return p
}

func branch(keys []string, kids ...int) api.Page {
	return api.Page{Kind: api.PBranch, Keys: keys, Kids: kids}
}

// handMade is the tree of a root, a depth and a count, in a store of 64 sectors that holds pages from 2 on.
func handMade(t *testing.T, root, depth, count int, pages ...api.Page) *tree.Tree {
	t.Helper()
	d, _ := device.New(64)
	s, _ := store.Format(d)
	for i, p := range pages {
		if n, e := s.Lay(0, p); n != 2+i || e != api.OK {
			t.Fatalf("Lay(%v) = %d, %d", p, n, int(e))
		}
	}
	if e := s.Commit(root, depth, count); e != api.OK {
		t.Fatalf("Commit: %d", int(e))
	}
	r, e := tree.Of(s)
	if e != api.OK || r.Root() != root || r.Depth() != depth || r.Count() != count {
		t.Fatalf("Of = %d", int(e))
	}
	return r
}

// sound is a tree of the depth 2, of three leaves: the pages 2 to 4, below the page 5.
func sound(t *testing.T) *tree.Tree {
	t.Helper()
	return handMade(t, 5, 2, 9, leaf("a", "b", "c"), leaf("f", "g", "h"), leaf("m", "n", "o"), branch(keys("f", "m"), 2, 3, 4))
}

// checks holds what Check tells against an error, or against pages.
func checks(t *testing.T, what string, r *tree.Tree, e api.Errno, pages ...int) {
	t.Helper()
	if got, f := walk.Check(r); f != e || !slices.Equal(got, pages) {
		t.Errorf("%s: Check = %v, %d; want %v, %d", what, got, int(f), pages, int(e))
	}
}

// breaks holds what a cursor tells from a key on against some keys, and then an error; and what Range tells.
func breaks(t *testing.T, what string, r *tree.Tree, from string, e api.Errno, want ...string) {
	t.Helper()
	got, f := all(t, what, walk.From(r, from))
	var had []string
	for _, p := range got {
		had = append(had, p.Key)
	}
	if f != e || !slices.Equal(had, want) {
		t.Errorf("%s, from %q: %v, then %d; want %v, then %d", what, from, had, int(f), want, int(e))
	}
	for most := range len(want) + 3 {
		l, f := walk.Range(r, from, "", most)
		if enough := most <= len(want); enough && (f != api.OK || !slices.Equal(l, got[:most])) || !enough && (f != e || e != api.OK && len(l) != 0) {
			t.Errorf("%s: Range(%q, empty, %d) = %v, %d", what, from, most, l, int(f))
		}
	}
}

// P9.2, P9.3: pages that are none, or of another kind than their depth asks, at each depth.
func TestWrongPages(t *testing.T) {
	list := api.Page{Kind: api.PFree, Pages: []int{9}}
	low := branch(keys("m"), 2, 3)
	for _, c := range []struct {
		what        string
		root, depth int
		pages       []api.Page
	}{
		{"a leaf in the depth 2", 2, 2, []api.Page{leaf("a")}},
		{"a leaf in the depth 20", 2, 20, []api.Page{leaf("a")}},
		{"a branch in the depth 1", 4, 1, []api.Page{leaf("a"), leaf("n"), low}},
		{"a branch of leaves in the depth 3", 4, 3, []api.Page{leaf("a"), leaf("n"), low}},
		{"a branch of branches in the depth 2", 5, 2, []api.Page{leaf("a"), leaf("n"), low, branch(keys("m"), 4, 4)}},
		{"a list as the root", 2, 1, []api.Page{list}},
		{"a list as a branch", 2, 2, []api.Page{list}},
		{"a list as a leaf", 4, 2, []api.Page{list, leaf("n"), low}},
		{"bytes 0 as the root", 9, 1, []api.Page{leaf("a")}},
		{"bytes 0 as a branch", 9, 3, []api.Page{leaf("a")}},
		{"bytes 0 as a leaf", 2, 2, []api.Page{branch(keys("m"), 9, 10)}},
		{"the last sector as a leaf", 2, 2, []api.Page{branch(keys("m"), 63, 63)}},
		{"beyond the last sector", 2, 2, []api.Page{branch(keys("m"), 64, 64)}},
		{"far beyond the last sector", 2, 2, []api.Page{branch(keys("m"), 4095, 4095)}},
		{"far beyond the last sector, as a branch", 2, 3, []api.Page{branch(keys("m"), 4095, 4095)}},
		{"the root beyond the last sector", 64, 1, []api.Page{leaf("a")}},
	} {
		r := handMade(t, c.root, c.depth, 7, c.pages...)
		breaks(t, c.what, r, "", api.ErrTree)
		breaks(t, c.what, r, "a", api.ErrTree)
		checks(t, c.what, r, api.ErrTree)
	}
}

// P9.2, P9.3: a page of the tree of another kind, behind leaves that are told.
func TestWrongPageBehind(t *testing.T) {
	for what, third := range map[string]int{"a branch": 5, "itself": 4, "bytes 0": 40, "beyond": 70} {
		r := handMade(t, 4, 2, 9, leaf("a", "b", "c"), leaf("f", "g", "h"), branch(keys("f", "m"), 2, 3, third), branch(keys("p"), 30, 31))
		breaks(t, what, r, "", api.ErrTree, "a", "b", "c", "f", "g", "h")
		breaks(t, what, r, "d", api.ErrTree, "f", "g", "h")
		breaks(t, what, r, "m", api.ErrTree)
		checks(t, what, r, api.ErrTree)
	}
}

// P9.2, P9.3: a page that is met twice: below one branch, below several, below itself, and by a cursor that has met it just once.
func TestMetTwice(t *testing.T) {
	r := handMade(t, 4, 2, 6, leaf("a", "b", "c"), leaf("f", "g", "h"), branch(keys("f", "m"), 2, 3, 2))
	breaks(t, "a leaf twice", r, "", api.ErrTree, "a", "b", "c", "f", "g", "h")
	breaks(t, "a leaf twice", r, "g", api.OK, "g", "h") // its entries are before the key, and it was not met before
	checks(t, "a leaf twice", r, api.ErrTree)

	r = handMade(t, 3, 2, 3, leaf("n", "o", "p"), branch(keys("c"), 2, 2))
	breaks(t, "a leaf twice, at once", r, "", api.ErrTree, "n", "o", "p")
	breaks(t, "a leaf twice, at once", r, "b", api.ErrTree, "n", "o", "p")
	breaks(t, "a leaf that is met once", r, "c", api.OK, "n", "o", "p")
	checks(t, "a leaf twice, at once", r, api.ErrTree)

	r = handMade(t, 6, 3, 9, leaf("a", "b", "c"), leaf("f", "g", "h"), branch(keys("f"), 2, 3), branch(keys("s"), 2, 9), branch(keys("p"), 4, 5))
	breaks(t, "a leaf of two branches", r, "", api.ErrTree, "a", "b", "c", "f", "g", "h")
	breaks(t, "a leaf of two branches", r, "p", api.ErrTree) // met once, and then bytes 0
	checks(t, "a leaf of two branches", r, api.ErrTree)

	r = handMade(t, 5, 3, 6, leaf("a", "b", "c"), leaf("f", "g", "h"), branch(keys("f"), 2, 3), branch(keys("p"), 4, 4))
	breaks(t, "a branch twice", r, "", api.ErrTree, "a", "b", "c", "f", "g", "h")
	breaks(t, "a branch that is met once", r, "p", api.OK)
	checks(t, "a branch twice", r, api.ErrTree)

	for depth := 2; depth <= 20; depth++ {
		what := "a branch below itself, in the depth " + strconv.Itoa(depth)
		r = handMade(t, 3, depth, 6, leaf("a", "b", "c"), branch(keys("f"), 3, 3))
		for _, from := range keys("", "a", "f", "z") {
			breaks(t, what, r, from, api.ErrTree)
		}
		checks(t, what, r, api.ErrTree)
	}
}

// P9.2, P9.3: each page of a tree that is spoilt, at some of its bytes: a cursor tells what is ahead of it, and then ErrTree, even if it is right again by then.
func TestSpoiltPages(t *testing.T) {
	const many = 120
	r := filled(t, 400, many)
	is(t, "Keep", r.Keep(), api.OK)
	if r.Depth() != 3 {
		t.Fatalf("depth %d", r.Depth())
	}
	d := r.Store().Device()
	pages, _ := pagesOf(t, r.Store(), r.Root(), r.Depth())
	for i, n := range pages {
		_, leaves := pagesOf(t, r.Store(), n, depthOf(t, r, n))
		first, _ := r.Store().Page(leaves[0])
		last, _ := r.Store().Page(leaves[len(leaves)-1])
		ahead, _ := strconv.Atoi(first.Pairs[0].Val)
		behind, _ := strconv.Atoi(last.Pairs[len(last.Pairs)-1].Val)
		at := []int{0, 1, 5, 20, 1015, 1023}[i%6]
		is(t, "Spoil", d.Spoil(n, at, 1), api.OK)
		what := "the page " + strconv.Itoa(n)
		c := walk.From(r, "")
		got, e := all(t, what, c)
		if !slices.Equal(got, entries(0, ahead)) || e != api.ErrTree {
			t.Errorf("%s: %d entries, then %d; want %d", what, len(got), int(e), ahead)
		}
		checks(t, what, r, api.ErrTree)
		ranges(t, what, r, many, ahead, behind)
		d.Spoil(n, at, 1)
		if _, has, e := c.Next(); has || e != api.ErrTree {
			t.Errorf("%s: Next of a page that is right again: %v, %d", what, has, int(e))
		}
	}
	tells(t, r, "", entries(0, many))
	slices.Sort(pages)
	checks(t, "not spoilt", r, api.OK, pages...)
}

// ranges holds ranges around a page that is spoilt, ahead of which so many entries lie, against what is asked: none of its entries, and nothing behind it.
func ranges(t *testing.T, what string, r *tree.Tree, many, ahead, behind int) {
	t.Helper()
	if l, e := walk.Range(r, "", "", ahead); !slices.Equal(l, entries(0, ahead)) || ahead > 0 && e != api.OK {
		t.Errorf("%s: a range of all ahead: %d, %d", what, len(l), int(e))
	}
	for _, c := range []struct {
		from, to string
		most     int
	}{{"", "", ahead + 1}, {"", key(behind), many}, {"", "", many}, {key(ahead), "", 1}, {key(behind), "", 1}} {
		if l, e := walk.Range(r, c.from, c.to, c.most); len(l) != 0 || e != api.ErrTree {
			t.Errorf("%s: Range(%q, %q, %d) = %v, %d", what, c.from, c.to, c.most, l, int(e))
		}
	}
	// The first entry that is not before to is the one that ends a range: it is asked.
	if l, e := walk.Range(r, "", key(ahead), many); len(l) != 0 || e != api.ErrTree {
		t.Errorf("%s: a range up to its first entry: %v, %d", what, l, int(e))
	}
	if behind+1 < many {
		if l, e := walk.Range(r, key(behind+1), "", many); !slices.Equal(l, entries(behind+1, many)) || e != api.OK {
			t.Errorf("%s: a range of all behind: %d, %d", what, len(l), int(e))
		}
	}
}

// depthOf is how deep the tree at a page of a tree of the depth 3 is.
func depthOf(t *testing.T, r *tree.Tree, n int) int {
	t.Helper()
	p, e := r.Store().Page(n)
	is(t, "Page", e, api.OK)
	switch {
	case n == r.Root():
		return 3
	case p.Kind == api.PBranch:
		return 2
	}
	return 1
}

// P9.2: a device without power: the error is told from then on by a cursor that was told it, though the power is back.
func TestDown(t *testing.T) {
	r := filled(t, 400, 60)
	r.Keep()
	d := r.Store().Device()
	pages, e := walk.Check(r)
	is(t, "Check", e, api.OK)
	begun, late, fresh := walk.From(r, ""), walk.From(r, key(7)), walk.From(r, key(9))
	var first []api.Pair
	for range 2 {
		p, _, _ := begun.Next()
		first = append(first, p)
	}
	d.Fuse(0)
	is(t, "Sync", d.Sync(), api.ErrDown)
	l, e := all(t, "the power is gone", begun)
	if first = append(first, l...); len(first) > 6 || !slices.Equal(first, entries(0, len(first))) || e != api.ErrDown {
		t.Errorf("%v, %d", first, int(e))
	}
	if l, e := all(t, "the power is gone", late); len(l) != 0 || e != api.ErrDown {
		t.Errorf("%v, %d", l, int(e))
	}
	if l, e := walk.Range(r, "", "", 1); len(l) != 0 || e != api.ErrDown {
		t.Errorf("Range = %v, %d", l, int(e))
	}
	if l, e := walk.Range(r, "", "", 0); len(l) != 0 || e != api.OK {
		t.Errorf("Range of none = %v, %d", l, int(e))
	}
	checks(t, "the power is gone", r, api.ErrDown)
	d.Restart(nil, -1, 0)
	for _, c := range []*walk.Cursor{begun, late} {
		if l, e := all(t, "the power is back", c); len(l) != 0 || e != api.ErrDown {
			t.Errorf("%v, %d", l, int(e))
		}
	}
	if l, e := all(t, "nothing was told", fresh); !slices.Equal(l, entries(9, 60)) || e != api.OK {
		t.Errorf("%v, %d", l, int(e))
	}
	tells(t, r, "", entries(0, 60))
	checks(t, "the power is back", r, api.OK, pages...)
}

// P9.1, P9.3: an empty tree asks for no page, nor a range of none of a tree without a root.
func TestNothingIsAsked(t *testing.T) {
	r := empty(t, 32)
	d := r.Store().Device()
	d.Fuse(0)
	d.Sync()
	tells(t, r, "", nil)
	checks(t, "empty", r, api.OK)
	r = sound(t)
	r.Store().Device().Spoil(5, 0, 1)
	for _, most := range []int{math.MinInt, -1, 0} {
		if l, e := walk.Range(r, "", "", most); len(l) != 0 || e != api.OK {
			t.Errorf("Range = %v, %d", l, int(e))
		}
	}
	if l, e := walk.Range(r, "b", "a", 1); len(l) != 0 || e != api.ErrTree { // its first entry is asked before it is held against to
		t.Errorf("Range = %v, %d", l, int(e))
	}
}

// P9.2: a page that was met before is told ahead of the power that is gone.
func TestMetTwiceIsFirst(t *testing.T) {
	r := handMade(t, 3, 2, 3, leaf("n", "o", "p"), branch(keys("c"), 2, 2))
	c := walk.From(r, "")
	for range 3 {
		if _, has, e := c.Next(); !has || e != api.OK {
			t.Errorf("Next = %v, %d", has, int(e))
		}
	}
	d := r.Store().Device()
	d.Fuse(0)
	d.Sync()
	if _, has, e := c.Next(); has || e != api.ErrTree {
		t.Errorf("Next = %v, %d", has, int(e))
	}
}

// P9.3: how few entries a leaf may have, and keys a branch; a root may have fewer.
func TestFew(t *testing.T) {
	checks(t, "sound", sound(t), api.OK, 2, 3, 4, 5)
	checks(t, "a root of an entry", handMade(t, 2, 1, 1, leaf("a")), api.OK, 2)
	checks(t, "a root of two", handMade(t, 2, 1, 2, leaf("a", "b")), api.OK, 2)
	checks(t, "a root of six", handMade(t, 2, 1, 6, leaf("a", "b", "c", "d", "e", "f")), api.OK, 2)
	checks(t, "a root of a key", handMade(t, 4, 2, 6, leaf("a", "b", "c"), leaf("f", "g", "h"), branch(keys("f"), 2, 3)), api.OK, 2, 3, 4)
	for few := 1; few <= 6; few++ {
		for kid := range 3 {
			leaves := []api.Page{leaf("a", "b", "c"), leaf("f", "g", "h"), leaf("m", "n", "o")}
			first := leaves[kid].Pairs[0].Key
			leaves[kid] = leaf(keys(first, first+"1", first+"2", first+"3", first+"4", first+"5")[:few]...)
			r := handMade(t, 5, 2, 6+few, append(leaves, branch(keys("f", "m"), 2, 3, 4))...)
			what := strconv.Itoa(few) + " in the leaf " + strconv.Itoa(kid)
			if few < 3 {
				checks(t, what, r, api.ErrShape)
			} else {
				checks(t, what, r, api.OK, 2, 3, 4, 5)
			}
		}
	}
	for has := 1; has <= 12; has++ {
		for side := range 2 {
			r := twoBranches(t, side, has)
			what := strconv.Itoa(has) + " keys in the branch " + strconv.Itoa(side)
			if has < 6 {
				checks(t, what, r, api.ErrShape)
				continue
			}
			pages, _ := pagesOf(t, r.Store(), r.Root(), 3)
			slices.Sort(pages)
			checks(t, what, r, api.OK, pages...)
		}
	}
}

// twoBranches is a tree of the depth 3, of a root with a key and two branches, one of so many keys, the other one of six.
func twoBranches(t *testing.T, side, has int) *tree.Tree {
	t.Helper()
	many := []int{6, 6}
	many[side] = has
	var pages []api.Page
	var branches []api.Page
	low, n := "", 0
	for _, m := range many {
		b := api.Page{Kind: api.PBranch}
		for i := range m + 1 {
			if i > 0 {
				b.Keys = append(b.Keys, key(n))
			} else {
				low = key(n) // in the end the second branch's
			}
			pages = append(pages, leaf(key(n), key(n+1), key(n+2)))
			b.Kids = append(b.Kids, 1+len(pages))
			n += 3
		}
		branches = append(branches, b)
	}
	at := 2 + len(pages)
	pages = append(append(pages, branches...), branch(keys(low), at, at+1))
	return handMade(t, at+2, 3, n, pages...)
}

// P9.3: a key that is not where the keys right above let it be.
func TestAstray(t *testing.T) {
	for _, c := range []struct {
		what   string
		leaves [3][]string
		e      api.Errno
	}{
		{"at the key ahead", [3][]string{{"a", "b", "c"}, {"f", "g", "h"}, {"m", "n", "o"}}, api.OK},
		{"right behind the key ahead", [3][]string{{"\x00", "b", "c"}, {"f\x00", "g", "h"}, {"m\x00", "n", "o"}}, api.OK},
		{"right before the key behind", [3][]string{{"a", "b", "ezzz"}, {"f", "g", "lzzz"}, {"m", "n", "\xff\xff"}}, api.OK},
		{"the first leaf at the key behind", [3][]string{{"a", "b", "f"}, {"g", "h", "i"}, {"m", "n", "o"}}, api.ErrShape},
		{"the first leaf beyond the key behind", [3][]string{{"a", "b", "fa"}, {"g", "h", "i"}, {"m", "n", "o"}}, api.ErrShape},
		{"the first leaf far beyond", [3][]string{{"a", "b", "z"}, {"g", "h", "i"}, {"m", "n", "o"}}, api.ErrShape},
		{"the middle leaf before the key ahead", [3][]string{{"a", "b", "c"}, {"ezzz", "g", "h"}, {"m", "n", "o"}}, api.ErrShape},
		{"the middle leaf far before", [3][]string{{"d", "da", "db"}, {"a", "g", "h"}, {"m", "n", "o"}}, api.ErrShape},
		{"the middle leaf at the key behind", [3][]string{{"a", "b", "c"}, {"f", "g", "m"}, {"n", "o", "p"}}, api.ErrShape},
		{"the middle leaf beyond the key behind", [3][]string{{"a", "b", "c"}, {"f", "g", "z"}, {"m", "n", "o"}}, api.ErrShape},
		{"the last leaf before the key ahead", [3][]string{{"a", "b", "c"}, {"f", "g", "h"}, {"lzzz", "n", "o"}}, api.ErrShape},
		{"the last leaf far before", [3][]string{{"a", "b", "c"}, {"f", "g", "h"}, {"d", "n", "o"}}, api.ErrShape},
		{"two leaves in each other's place", [3][]string{{"f", "g", "h"}, {"a", "b", "c"}, {"m", "n", "o"}}, api.ErrShape},
		{"the same keys twice", [3][]string{{"a", "b", "c"}, {"a", "b", "c"}, {"m", "n", "o"}}, api.ErrShape},
	} {
		r := handMade(t, 5, 2, 9, leaf(c.leaves[0]...), leaf(c.leaves[1]...), leaf(c.leaves[2]...), branch(keys("f", "m"), 2, 3, 4))
		if c.e == api.OK {
			checks(t, c.what, r, api.OK, 2, 3, 4, 5)
			continue
		}
		checks(t, c.what, r, c.e)
	}
}

// P9.3: a key that is where its leaf's branch lets it be, but not where the root does; and a branch's keys.
func TestAstrayFarAbove(t *testing.T) {
	for _, c := range []struct {
		what  string
		leaf  int // 0 to 6 lie below the first branch, 7 to 13 below the other one
		place int
		key   string
		e     api.Errno
	}{
		{"as it is", 0, 0, key(0), api.OK},
		{"the first key of all", 0, 0, "\x00", api.OK},
		{"the first branch's last key, right before the root's", 6, 2, key(20) + "\xff", api.OK},
		{"the first branch's last key, at the root's", 6, 2, key(21), api.ErrShape},
		{"the first branch's last key, beyond the root's", 6, 2, key(21) + "\x00", api.ErrShape},
		{"the first branch's last key, far beyond", 6, 2, "z", api.ErrShape},
		{"the other branch's first key, at the root's", 7, 0, key(21), api.OK},
		{"the other branch's first key, right before the root's", 7, 0, key(20) + "\xff", api.ErrShape},
		{"the other branch's first key, far before", 7, 0, "\x00", api.ErrShape},
		{"the last key of all", 13, 2, "\xff", api.OK},
	} {
		r := twoBranches(t, 0, 6)
		s := r.Store()
		p, e := s.Page(2 + c.leaf)
		is(t, "Page", e, api.OK)
		p.Pairs[c.place].Key = c.key
		write(t, s, 2+c.leaf, p)
		var pages []int
		if c.e == api.OK {
			pages, _ = pagesOf(t, s, r.Root(), 3)
			slices.Sort(pages)
		}
		checks(t, c.what, r, c.e, pages...)
	}
	for i, k := range keys(key(21), key(22), "z") { // instead of the last of the first branch's keys
		r := twoBranches(t, 0, 6)
		p, _ := r.Store().Page(16)
		p.Keys[5] = k
		write(t, r.Store(), 16, p)
		checks(t, "a branch's key beyond the root's "+strconv.Itoa(i), r, api.ErrShape)
	}
	for i, k := range keys(key(20)+"\xff", key(21), "0") { // instead of the first of the other branch's keys
		r := twoBranches(t, 0, 6)
		p, _ := r.Store().Page(17)
		p.Keys[0] = k
		write(t, r.Store(), 17, p)
		checks(t, "a branch's key before the root's "+strconv.Itoa(i), r, api.ErrShape)
	}
}

// write lays a page's bytes into a sector, past the store.
func write(t *testing.T, s *store.Store, n int, p api.Page) {
	t.Helper()
	b, e := page.Encode(n, p)
	is(t, "Encode", e, api.OK)
	is(t, "Write", s.Device().Write(n, b), api.OK)
}

// P9.3: a page that is none of the pool's that were ever used.
func TestBeyondHigh(t *testing.T) {
	r := handMade(t, 4, 2, 6, leaf("a", "b", "c"), leaf("f", "g", "h"), branch(keys("f"), 2, 3))
	if pool := r.Store().Pool(); pool.High != 5 {
		t.Fatalf("Pool %v", pool)
	}
	checks(t, "all below High", r, api.OK, 2, 3, 4)
	for _, n := range []int{5, 6, 63} {
		r := handMade(t, 4, 2, 6, leaf("a", "b", "c"), leaf("f", "g", "h"), branch(keys("f"), 2, n))
		write(t, r.Store(), n, leaf("f", "g", "h"))
		breaks(t, "a leaf beyond High", r, "", api.OK, "a", "b", "c", "f", "g", "h")
		checks(t, "the leaf "+strconv.Itoa(n), r, api.ErrShape)
		r = handMade(t, n, 2, 6, leaf("a", "b", "c"), leaf("f", "g", "h"))
		write(t, r.Store(), n, branch(keys("f"), 2, 3))
		checks(t, "the root "+strconv.Itoa(n), r, api.ErrShape)
	}
}

// P9.3: a page that is known to the pool as it is now: in limbo, or free.
func TestKnownToThePool(t *testing.T) {
	for n := 2; n <= 5; n++ {
		r := sound(t)
		s := r.Store()
		is(t, "Drop", s.Drop(n), api.OK)
		if pool := s.Pool(); !slices.Equal(pool.Limbo, []int{n}) {
			t.Fatalf("Pool %v", pool)
		}
		checks(t, "in limbo: "+strconv.Itoa(n), r, api.ErrShape)
		s.Abort()
		checks(t, "taken back", r, api.OK, 2, 3, 4, 5)
		s.Drop(n)
		is(t, "Commit", s.Commit(5, 2, 9), api.OK)
		if pool := s.Pool(); !slices.Contains(pool.Free, n) {
			t.Fatalf("Pool %v", pool)
		}
		checks(t, "free: "+strconv.Itoa(n), r, api.ErrShape)
		breaks(t, "free", r, "", api.OK, "a", "b", "c", "f", "g", "h", "m", "n", "o")
	}
	r := sound(t)
	s := r.Store()
	for range 2 { // pages that are not the tree's may be free, and in limbo
		other, e := s.Lay(0, leaf("x"))
		is(t, "Lay", e, api.OK)
		is(t, "Commit", s.Commit(5, 2, 9), api.OK)
		is(t, "Drop", s.Drop(other), api.OK)
		is(t, "Commit", s.Commit(5, 2, 9), api.OK)
	}
	if pool := s.Pool(); len(pool.Free) == 0 || len(s.Lists()) == 0 {
		t.Fatalf("Pool %v, Lists %v", pool, s.Lists())
	}
	other, _ := s.Lay(0, leaf("x"))
	checks(t, "others", r, api.OK, 2, 3, 4, 5)
	s.Drop(other)
	checks(t, "others", r, api.OK, 2, 3, 4, 5)
}

// P9.3: a page that is one of the lists', though what lies there is the tree's by now.
func TestOneOfTheLists(t *testing.T) {
	r := sound(t)
	s := r.Store()
	other, e := s.Lay(0, leaf("x"))
	is(t, "Lay", e, api.OK)
	is(t, "Commit", s.Commit(5, 2, 9), api.OK)
	is(t, "Drop", s.Drop(other), api.OK)
	is(t, "Commit", s.Commit(5, 2, 9), api.OK)
	lists, pool := s.Lists(), s.Pool()
	if len(lists) != 1 || slices.Contains(pool.Free, lists[0]) || slices.Contains(pool.Limbo, lists[0]) || lists[0] >= pool.High {
		t.Fatalf("Lists %v, Pool %v", lists, pool)
	}
	checks(t, "a list", r, api.OK, 2, 3, 4, 5)
	write(t, s, 5, branch(keys("f", "m"), 2, 3, lists[0]))
	checks(t, "a list in the tree", r, api.ErrTree)
	write(t, s, lists[0], leaf("m", "n", "o"))
	breaks(t, "a list's page", r, "", api.OK, "a", "b", "c", "f", "g", "h", "m", "n", "o")
	checks(t, "a list's page", r, api.ErrShape)
}

// P9.3: another Count than there are entries.
func TestCount(t *testing.T) {
	for _, count := range []int{1, 8, 9, 10, 18, math.MaxInt32} {
		r := handMade(t, 5, 2, count, leaf("a", "b", "c"), leaf("f", "g", "h"), leaf("m", "n", "o"), branch(keys("f", "m"), 2, 3, 4))
		breaks(t, "Count", r, "", api.OK, "a", "b", "c", "f", "g", "h", "m", "n", "o")
		if count == 9 {
			checks(t, "Count 9", r, api.OK, 2, 3, 4, 5)
		} else {
			checks(t, "Count "+strconv.Itoa(count), r, api.ErrShape)
		}
	}
}

// P9.3, R2: ErrTree is told of any page ahead of all that is odd.
func TestTreeAheadOfShape(t *testing.T) {
	for what, odd := range map[string][3][]string{
		"few":    {{"a"}, {"f", "g", "h"}, {"m", "n", "o"}},
		"astray": {{"a", "b", "z"}, {"f", "g", "h"}, {"m", "n", "o"}},
		"count":  {{"a", "b", "c", "d"}, {"f", "g", "h"}, {"m", "n", "o"}},
	} {
		r := handMade(t, 5, 2, 9, leaf(odd[0]...), leaf(odd[1]...), leaf(odd[2]...), branch(keys("f", "m"), 2, 3, 4))
		checks(t, what, r, api.ErrShape)
		r.Store().Device().Spoil(4, 30, 1)
		checks(t, what+", and a page that is spoilt", r, api.ErrTree)
		r = handMade(t, 5, 2, 9, leaf(odd[0]...), leaf(odd[1]...), leaf(odd[2]...), branch(keys("f", "m"), 2, 3, 2))
		checks(t, what+", and a page that is met twice", r, api.ErrTree)
	}
	r := sound(t)
	r.Store().Drop(2)
	r.Store().Device().Spoil(3, 30, 1)
	checks(t, "in limbo, and another one is spoilt", r, api.ErrTree)
	write(t, r.Store(), 5, branch(keys("f", "m"), 40, 41, 42))
	checks(t, "beyond High, and bytes 0", r, api.ErrTree)
}
