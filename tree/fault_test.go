package tree_test

import (
	"math"
	"slices"
	"strconv"
	"strings"
	"testing"

	"cambist/api"
	"cambist/device"
	"cambist/page"
	"cambist/store"
	"cambist/tree"
)

// leaf is a leaf of these keys; branch is one of keys between kids.
func leaf(keys ...string) api.Page {
	p := api.Page{Kind: api.PLeaf}
	for _, k := range keys {
		p.Pairs = append(p.Pairs, api.Pair{Key: k, Val: "of " + k})
	}
	return p
}

func branch(keys []string, kids ...int) api.Page {
	return api.Page{Kind: api.PBranch, Keys: keys, Kids: kids}
}

// keys are texts.
func keys(k ...string) []string { return k }

// handMade is the tree of a root, a depth and a count, in a store that holds pages from 2 on.
func handMade(t *testing.T, sectors, root, depth, count int, pages ...api.Page) *tree.Tree {
	t.Helper()
	d, _ := device.New(sectors)
	s, _ := store.Format(d)
	for i, p := range pages {
		if n, e := s.Lay(0, p); n != 2+i || e != api.OK {
			t.Fatalf("Lay(%v) = %d, %d", p, n, int(e))
		}
	}
	if e := s.Commit(root, depth, count); e != api.OK {
		t.Fatalf("Commit: %d", int(e))
	}
	r, e := tree.Of(s)
	if e != api.OK || r.Root() != root || r.Depth() != depth || r.Count() != count {
		t.Fatalf("Of = %d", int(e))
	}
	return r
}

// P8.2: a tree that others have laid is read and changed as well; its pages need not be as P8.4 says it of those that are laid here.
func TestHandMade(t *testing.T) {
	r := handMade(t, 64, 8, 3, 7,
		leaf("a", "b"), leaf("c"), leaf("d"), leaf("e", "f", "g"),
		branch(keys("c"), 2, 3), branch(keys("da"), 4, 5), branch(keys("ca"), 6, 7),
	)
	for _, k := range keys("a", "b", "c", "d", "e", "f", "g") {
		if val, had, e := r.Get(k); val != "of "+k || !had || e != api.OK {
			t.Errorf("Get(%s) = %q, %v, %d", k, val, had, int(e))
		}
	}
	for i, k := range keys("c", "d", "a", "g", "b", "e", "f") {
		if had, e := r.Cut(k); !had || e != api.OK || r.Count() != 6-i {
			t.Errorf("Cut(%s) = %v, %d; count %d", k, had, int(e), r.Count())
		}
	}
	if r.Depth() != 0 || r.Root() != 0 {
		t.Errorf("depth %d", r.Depth())
	}
	formOf(t, "all cut", r)
}

// P8.2: a key is in the kid behind the last of Keys that it is not before.
func TestSides(t *testing.T) {
	r := handMade(t, 64, 5, 2, 9, leaf("a", "b", "ba"), leaf("c", "d", "e"), leaf("f", "g", "h"), branch(keys("c", "f"), 2, 3, 4))
	for _, c := range []struct {
		key string
		at  int
	}{{"a", 2}, {"b", 2}, {"bz", 2}, {"c", 3}, {"c\x00", 3}, {"ez", 3}, {"f", 4}, {"f\x00", 4}, {"z", 4}, {"A", 2}} {
		is(t, "Set "+c.key, r.Set(c.key, "new"), api.OK)
		root, _ := r.Store().Page(r.Root())
		for i, n := range []int{2, 3, 4} {
			if (root.Kids[i] != n) != (c.at == n) {
				t.Errorf("Set(%q) lays %v", c.key, root.Kids)
			}
		}
		r.Store().Abort()
		r, _ = tree.Of(r.Store())
	}
}

// broken tells of a tree what it asks on the way to the key k: ErrTree, of all calls; Set and Cut of other keys go first, and are taken back.
func broken(t *testing.T, what string, r *tree.Tree, k string) {
	t.Helper()
	s := r.Store()
	root, depth, count, pool := r.Root(), r.Depth(), r.Count(), s.Pool()
	for _, call := range []struct {
		name string
		do   func() api.Errno
	}{
		{"Get", func() api.Errno {
			val, had, e := r.Get(k)
			if val != "" || had {
				t.Errorf("%s: Get = %q, %v", what, val, had)
			}
			return e
		}},
		{"Set", func() api.Errno { return r.Set(k, "new") }},
		{"Cut", func() api.Errno {
			had, e := r.Cut(k)
			if had {
				t.Errorf("%s: Cut = %v", what, had)
			}
			return e
		}},
	} {
		s.Lay(0, leaf("not kept")) // is taken back
		is(t, what+": "+call.name, call.do(), api.ErrTree)
		if r.Root() != root || r.Depth() != depth || r.Count() != count || !samePool(s.Pool(), pool) {
			t.Errorf("%s: %s leaves root %d, depth %d, count %d, %v; want %d, %d, %d, %v", what, call.name, r.Root(), r.Depth(), r.Count(), s.Pool(), root, depth, count, pool)
		}
	}
}

// P8.3: pages that are none, or of another kind than their depth asks, at each depth.
func TestWrongPages(t *testing.T) {
	list := api.Page{Kind: api.PFree, Pages: []int{9}}
	low := branch(keys("m"), 2, 3)
	for _, c := range []struct {
		what        string
		root, depth int
		pages       []api.Page
	}{
		{"a leaf in the depth 2", 2, 2, []api.Page{leaf("a")}},
		{"a leaf in the depth 20", 2, 20, []api.Page{leaf("a")}},
		{"a branch in the depth 1", 4, 1, []api.Page{leaf("a"), leaf("n"), low}},
		{"a branch of leaves in the depth 3", 4, 3, []api.Page{leaf("a"), leaf("n"), low}},
		{"a branch of branches in the depth 2", 5, 2, []api.Page{leaf("a"), leaf("n"), low, branch(keys("m"), 4, 4)}},
		{"a list as the root", 2, 1, []api.Page{list}},
		{"a list as a branch", 2, 2, []api.Page{list}},
		{"a list as a leaf", 4, 2, []api.Page{list, leaf("n"), low}},
		{"bytes 0 as the root", 9, 1, []api.Page{leaf("a")}},
		{"bytes 0 as a branch", 9, 3, []api.Page{leaf("a")}},
		{"bytes 0 as a leaf", 2, 2, []api.Page{branch(keys("m"), 9, 10)}},
		{"the last sector as a leaf", 2, 2, []api.Page{branch(keys("m"), 31, 31)}},
		{"beyond the last sector", 2, 2, []api.Page{branch(keys("m"), 32, 32)}},
		{"far beyond the last sector", 2, 2, []api.Page{branch(keys("m"), 4095, 4095)}},
		{"far beyond the last sector, as a branch", 2, 3, []api.Page{branch(keys("m"), 4095, 4095)}},
		{"the root beyond the last sector", 32, 1, []api.Page{leaf("a")}},
	} {
		broken(t, c.what, handMade(t, 32, c.root, c.depth, 7, c.pages...), "a")
	}
}

// P8.3: each page of a tree that is spoilt, at some of its bytes: what asks for it is told, what does not is not.
func TestSpoiltPages(t *testing.T) {
	l := filled(t, 300, 120)
	l.keep()
	if l.r.Depth() != 3 {
		t.Fatalf("depth %d", l.r.Depth())
	}
	for i, n := range formOf(t, "kept", l.r).pages() {
		at := []int{0, 1, 5, 20, 1015, 1023}[i%6]
		is(t, "Spoil", l.device().Spoil(n, at, 1), api.OK)
		hit := 0
		for i := range 120 {
			val, had, e := l.r.Get(key(i))
			if e == api.ErrTree && val == "" && !had {
				hit++
				if hit == 1 {
					broken(t, "the page "+strconv.Itoa(n), l.r, key(i))
				}
			} else if e != api.OK || val != strconv.Itoa(i) || !had {
				t.Errorf("the page %d is spoilt: Get(%d) = %q, %v, %d", n, i, val, had, int(e))
			}
		}
		if p := l.pairsBelow(n); hit != p {
			t.Errorf("the page %d is spoilt: %d keys of %d are told", n, hit, p)
		}
		l.device().Spoil(n, at, 1)
	}
	l.agree("not spoilt")
}

// pairsBelow is how many entries lie at, or below, a page of a tree of the depth 3; all calls find what was kept, for the page is spoilt now.
func (l *life) pairsBelow(n int) int {
	l.t.Helper()
	many := 0
	for i := range l.last.count {
		at := l.last.root
		for range 3 {
			if at == n {
				many++
				break
			}
			p, _ := page.Decode(at, l.last.held[at])
			if p.Kind != api.PBranch {
				break
			}
			kid := 0
			for kid < len(p.Keys) && p.Keys[kid] <= key(i) {
				kid++
			}
			at = p.Kids[kid]
		}
	}
	return many
}

// P8.3: a neighbour is asked only where a page has too little: then it is told, too.
func TestSpoiltNeighbour(t *testing.T) {
	for _, kid := range []int{0, 1} {
		for many := 3; many <= 6; many++ {
			for _, kind := range []string{"bytes", "branch", "beyond"} {
				mine := []string{"a", "b", "c", "d", "e", "f"}[:many]
				other := leaf("n", "o", "p")
				cut := "a"
				if kid == 1 {
					for i := range mine {
						mine[i] = "x" + mine[i]
					}
					other, cut = leaf("a", "b", "c"), "xa"
				}
				if kind == "branch" {
					other = branch(keys("m"), 9, 9)
				}
				kids := []int{2, 2}
				kids[1-kid] = 3
				if kind == "beyond" {
					kids[1-kid] = 99
				}
				r := handMade(t, 32, 4, 2, many+3, leaf(mine...), other, branch(keys("m"), kids...))
				if kind == "bytes" {
					r.Store().Device().Spoil(3, 30, 7)
				}
				want := api.OK
				if many == 3 {
					want = api.ErrTree
				}
				had, e := r.Cut(cut)
				is(t, kind+" beside "+strconv.Itoa(many), e, want)
				if had != (want == api.OK) || want != api.OK && (r.Root() != 4 || r.Count() != many+3 || !samePool(r.Store().Pool(), api.Pool{High: 5})) {
					t.Errorf("%s beside %d: %v; root %d, %v", kind, many, had, r.Root(), r.Store().Pool())
				}
			}
		}
	}
}

// P8.3: a device without a page left, of each size: what was begun is taken back, and what has room may be done.
func TestFull(t *testing.T) {
	full := map[string]int{}
	for sectors := 2; sectors < 32; sectors++ {
		l := empty(t, sectors)
		for round := range 40 {
			for i := range 3 {
				if e := l.set(key((round*3+i)*7%150), strconv.Itoa(round)); e == api.ErrFull {
					full["Set"]++
				} else if e != api.OK {
					t.Errorf("%d sectors: Set %d", sectors, int(e))
				}
			}
			if e := l.keep(); e == api.ErrFull {
				full["Keep"]++
			} else if e != api.OK {
				t.Errorf("%d sectors: Keep %d", sectors, int(e))
			}
			if e := l.cut(key(round * 11 % 150)); e == api.ErrFull {
				full["Cut"]++
			} else if e != api.OK {
				t.Errorf("%d sectors: Cut %d", sectors, int(e))
			}
			if t.Failed() {
				t.Fatalf("%d sectors, round %d", sectors, round)
			}
		}
	}
	if full["Set"] == 0 || full["Keep"] == 0 || full["Cut"] == 0 {
		t.Errorf("full: %v", full)
	}
}

// P8.3, P8.5: a device whose power goes at each act of a set, of a cut, and of a commit: all is as the last commit left it, and the device is told to be down from then on.
func TestDown(t *testing.T) {
	for _, what := range []string{"Set", "Cut", "Keep"} {
		done := false
		for acts := 0; !done; acts++ {
			l := filled(t, 300, 120)
			l.keep()
			l.set(key(60)+"+", "not kept")
			l.device().Fuse(acts)
			var e api.Errno
			switch what {
			case "Set":
				e = l.set(key(3)+"+", "cut off")
			case "Cut":
				e = l.cut(key(3))
			case "Keep":
				e = l.keep()
			}
			if done = e == api.OK; done {
				if acts < 3 {
					t.Errorf("%s of %d acts", what, acts)
				}
				break
			}
			is(t, what, e, api.ErrDown)
			is(t, "Get", l.get(key(60)), api.ErrDown)
			is(t, "Set", l.set(key(60), "x"), api.ErrDown)
			is(t, "Cut", l.cut(key(60)), api.ErrDown)
			is(t, "Keep", l.keep(), api.ErrDown)
			is(t, "Set of no pair", l.r.Set("", ""), api.ErrPair)
			l.device().Restart(nil, -1, 0)
			l.agree("the power is back")
			is(t, "Get", l.get(key(60)), api.OK)
			is(t, "Set", l.set(key(60), "x"), api.OK)
			is(t, "Keep", l.keep(), api.OK)
			l.reopen("Open")
		}
	}
}

// P8.2, P8.3: what is refused as a pair is told ahead of what the pages are, and takes nothing back.
func TestRefusedTakesNothingBack(t *testing.T) {
	l := filled(t, 100, 20)
	l.keep()
	l.set("x", "not kept")
	is(t, "Set", l.r.Set("", ""), api.ErrPair)
	is(t, "Set", l.r.Set("x", strings.Repeat("v", 101)), api.ErrPair)
	l.agree("Set is refused")
	l.get("x")
	l.device().Spoil(l.r.Root(), 9, 1)
	is(t, "Set", l.r.Set(strings.Repeat("k", 49), ""), api.ErrPair)
	if l.r.Count() != 21 {
		t.Errorf("Count %d", l.r.Count())
	}
	is(t, "Get", l.get("x"), api.ErrTree) // and the tree is the one that was kept
	is(t, "Get", l.get("x"), api.OK)
	if l.r.Count() != 20 {
		t.Errorf("Count %d", l.r.Count())
	}
}

// P8.3, P8.5: a commit that may not be: the tree is the last commit's, even if nothing else was told.
func TestKeepRefused(t *testing.T) {
	r := handMade(t, 32, 2, 1, 1, leaf("a", "b", "c")) // Count tells less than there are
	for _, k := range keys("a", "b") {
		if had, e := r.Cut(k); !had || e != api.OK {
			t.Errorf("Cut = %v, %d", had, int(e))
		}
		is(t, "Keep", r.Keep(), api.ErrPage)
		if r.Root() != 2 || r.Depth() != 1 || r.Count() != 1 || !samePool(r.Store().Pool(), api.Pool{High: 3}) {
			t.Errorf("root %d, depth %d, count %d, %v", r.Root(), r.Depth(), r.Count(), r.Store().Pool())
		}
	}
	r = handMade(t, 32, 2, 1, math.MaxInt32, leaf("a"))
	is(t, "Set", r.Set("b", ""), api.OK)
	is(t, "Keep", r.Keep(), api.ErrPage)
	if r.Count() != math.MaxInt32 || r.Root() != 2 {
		t.Errorf("root %d, count %d", r.Root(), r.Count())
	}
}

// P8.3: an error of the store's, though it is one that takes nothing back by itself: the tree does.
func TestStoreError(t *testing.T) {
	r := handMade(t, 32, 4, 2, 6, leaf("a", "b", "c"), leaf("n", "o", "p"), branch(keys("m"), 2, 3))
	r.Store().Drop(2)
	is(t, "Set", r.Set("a", "new"), api.ErrArg) // its page is given away
	if r.Root() != 4 || r.Depth() != 2 || r.Count() != 6 || !samePool(r.Store().Pool(), api.Pool{High: 5}) {
		t.Errorf("root %d, depth %d, count %d, %v", r.Root(), r.Depth(), r.Count(), r.Store().Pool())
	}
	is(t, "Set", r.Set("a", "new"), api.OK)
	r = handMade(t, 32, 2, 1, 1, leaf("a"))
	r.Store().Drop(2)
	had, e := r.Cut("a")
	if had || e != api.ErrArg || r.Root() != 2 || r.Depth() != 1 || r.Count() != 1 || !samePool(r.Store().Pool(), api.Pool{High: 3}) {
		t.Errorf("Cut = %v, %d: root %d, depth %d, count %d, %v", had, int(e), r.Root(), r.Depth(), r.Count(), r.Store().Pool())
	}
}

// told tells a tree much, of which nobody knows what it answers: it ends, without a panic, and what is told an error leaves the last commit.
func told(t *testing.T, what string, r *tree.Tree) {
	t.Helper()
	s := r.Store()
	for i := range 120 {
		k := string(rune('a'+i*7%26)) + strings.Repeat("z", i%3)
		var e api.Errno
		switch i % 4 {
		case 0, 1:
			e = r.Set(k, strconv.Itoa(i))
		case 2:
			_, e = r.Cut(k)
		case 3:
			_, _, e = r.Get(k)
		}
		if i%30 == 29 {
			e = r.Keep()
		}
		if super := s.Super(); e != api.OK && (r.Root() != super.Root || r.Depth() != super.Depth || r.Count() != super.Count || len(s.Pool().Limbo) > 0) {
			t.Errorf("%s: told %d: root %d, depth %d, count %d of %v", what, int(e), r.Root(), r.Depth(), r.Count(), super)
		}
	}
}

// R1: trees that are none: pages that lead to themselves, that are met twice, that are free, that are out of order, and depths that are none.
func TestCrookedTrees(t *testing.T) {
	a, n := leaf("a", "b", "c"), leaf("n", "o", "p")
	low := branch(keys("m"), 2, 3)
	for _, depth := range []int{1, 2, 3, 4, 20} {
		for _, count := range []int{1, 3, 6, 1000, math.MaxInt32} {
			for what, pages := range map[string][]api.Page{
				"as it should be":      {a, n, low},
				"to itself":            {a, n, branch(keys("m"), 4, 4)},
				"to itself and a leaf": {a, n, branch(keys("m"), 4, 3)},
				"a leaf and to itself": {a, n, branch(keys("m"), 2, 4)},
				"twice the same":       {a, n, branch(keys("m"), 2, 2)},
				"many times the same":  {a, n, branch(strings.Split("abcdefghijkl", ""), 2, 3, 2, 3, 2, 3, 2, 3, 2, 3, 2, 3, 2)},
				"the wrong way round":  {n, a, low},
				"nothing in order":     {leaf("b", "z"), leaf("a", "m", "x"), branch(keys("a", "m", "y"), 2, 3, 2, 3)},
				"beyond High":          {a, n, branch(keys("m"), 2, 9)},
				"beyond the device":    {a, n, branch(keys("m"), 2, 4095)},
				"of one entry each":    {leaf("a"), leaf("z"), low},
				"a full one":           {leaf("a", "b", "c", "d", "e", "f"), leaf("n", "o", "p", "q", "r", "s"), low},
			} {
				told(t, what, handMade(t, 40, 4, depth, count, pages...))
			}
		}
	}
}

// R1: a tree whose pages the lists tell to be free: they are laid into while it is read.
func TestTreeOfFreePages(t *testing.T) {
	d, _ := device.New(40)
	for n, p := range []api.Page{
		{},
		{Kind: api.PSuper, Epoch: 1, Root: 4, Depth: 2, Count: 6, High: 12, Next: 5},
		leaf("a", "b", "c"), leaf("n", "o", "p"), branch(keys("m"), 2, 3),
		{Kind: api.PFree, Pages: []int{2, 3, 4, 7, 8}},
	} {
		if n == 0 {
			continue
		}
		b, e := page.Encode(n, p)
		if e != api.OK {
			t.Fatalf("Encode(%d): %d", n, int(e))
		}
		d.Write(n, b)
	}
	d.Sync()
	s, e := store.Open(d)
	is(t, "Open", e, api.OK)
	r, _ := tree.Of(s)
	is(t, "Get", func() api.Errno { _, _, e := r.Get("a"); return e }(), api.OK)
	told(t, "free pages", r)
}

// R1: the deepest tree that may be, of pages that are met again and again, all of them full.
func TestDeepestTree(t *testing.T) {
	pages := []api.Page{leaf("a", "b", "c", "d", "e", "f")}
	for n := 2; n < 21; n++ {
		var k []string // all of them behind those of the branch below, so that the key between its halves fits in
		for i := range 12 {
			k = append(k, string(rune('g'+n-2))+string(rune('a'+i)))
		}
		pages = append(pages, branch(k, slices.Repeat([]int{n}, 13)...))
	}
	r := handMade(t, 100, 21, 20, 6, pages...)
	for _, k := range keys("a", "z", "g") {
		if _, had, e := r.Get(k); had != (k == "a") || e != api.OK {
			t.Errorf("Get(%s) = %v, %d", k, had, int(e))
		}
	}
	is(t, "Set", r.Set("abc", ""), api.OK) // each page is two then, and there is another root
	if r.Depth() != 21 {
		t.Errorf("depth %d", r.Depth())
	}
	is(t, "Keep", r.Keep(), api.ErrPage)
	if r.Depth() != 20 || r.Root() != 21 {
		t.Errorf("depth %d, root %d", r.Depth(), r.Root())
	}
	told(t, "the deepest", r)
}

// R1: two trees of one store that lay and keep, each without the other one's knowing.
func TestTwoTreesOfOneStore(t *testing.T) {
	a := handMade(t, 60, 4, 2, 6, leaf("a", "b", "c"), leaf("n", "o", "p"), branch(keys("m"), 2, 3))
	b, _ := tree.Of(a.Store())
	for i := range 200 {
		k := string(rune('a' + i*7%26))
		a.Set(k, "a")
		b.Cut(k)
		b.Set(k, "b")
		a.Get(k)
		if i%9 == 0 {
			b.Keep()
		}
		if i%31 == 0 {
			a.Keep()
		}
		if i%17 == 0 {
			a.Store().Abort()
		}
	}
	a.Store().Abort()
	c, e := tree.Of(a.Store())
	if e != api.OK || c.Store() != b.Store() {
		t.Errorf("Of = %d", int(e))
	}
}
