package txn_test

import (
	"math"
	"slices"
	"strconv"
	"strings"
	"testing"

	"cambist/api"
	"cambist/device"
	"cambist/store"
	"cambist/tree"
	"cambist/txn"
	"cambist/walk"
)

// is holds an answer against the one that is asked for.
func is(t *testing.T, what string, got, want api.Errno) {
	t.Helper()
	if got != want {
		t.Errorf("%s: %d, want %d", what, int(got), int(want))
	}
}

// key is the i-th one, rising.
func key(i int) string { return strconv.Itoa(10000 + i) }

// texts are some of them.
func texts(l ...string) []string { return l }

// empty is a tree on a new device.
func empty(t *testing.T, sectors int) *tree.Tree {
	t.Helper()
	d, e := device.New(sectors)
	if e != api.OK {
		t.Fatalf("New(%d): %d", sectors, int(e))
	}
	s, e := store.Format(d)
	if e != api.OK {
		t.Fatalf("Format: %d", int(e))
	}
	r, e := tree.Of(s)
	if e != api.OK {
		t.Fatalf("Of: %d", int(e))
	}
	return r
}

// kept is a tree of the first keys, set rising, each with its number, that was kept.
func kept(t *testing.T, sectors, many int) *tree.Tree {
	t.Helper()
	r := empty(t, sectors)
	for i := range many {
		is(t, "Set", r.Set(key(i), strconv.Itoa(i)), api.OK)
	}
	is(t, "Keep", r.Keep(), api.OK)
	return r
}

// begun is a transaction of a tree.
func begun(t *testing.T, r *tree.Tree) *txn.Txn {
	t.Helper()
	x, e := txn.Begin(r)
	if x == nil || e != api.OK {
		t.Fatalf("Begin: %d", int(e))
	}
	return x
}

// gets holds what a key has against what it should.
func gets(t *testing.T, x *txn.Txn, key, val string, has bool) {
	t.Helper()
	if got, had, e := x.Get(key); got != val || had != has || e != api.OK {
		t.Errorf("Get(%q) = %q, %v, %d; want %q, %v", key, got, had, int(e), val, has)
	}
}

// ranges holds what a range has against what it should.
func ranges(t *testing.T, x *txn.Txn, from, to string, most int, want []api.Pair) {
	t.Helper()
	if got, e := x.Range(from, to, most); !slices.Equal(got, want) || e != api.OK {
		t.Errorf("Range(%q, %q, %d) = %v, %d; want %v", from, to, most, got, int(e), want)
	}
}

// writes holds a transaction's writes against what they should be.
func writes(t *testing.T, x *txn.Txn, want ...string) {
	t.Helper()
	if got := x.Writes(); !slices.Equal(got, want) {
		t.Errorf("Writes = %q, want %q", got, want)
	}
}

// holds holds a tree's entries, its form and its last commit's Epoch against what they should be.
func holds(t *testing.T, what string, r *tree.Tree, epoch uint64, want []api.Pair) {
	t.Helper()
	if got, e := walk.Range(r, "", "", math.MaxInt); !slices.Equal(got, want) || e != api.OK {
		t.Errorf("%s: the tree's entries are %v, %d; want %v", what, got, int(e), want)
	}
	if _, e := walk.Check(r); e != api.OK {
		t.Errorf("%s: Check: %d", what, int(e))
	}
	if got := r.Store().Super().Epoch; got != epoch {
		t.Errorf("%s: Epoch %d, want %d", what, got, epoch)
	}
}

// refuses holds each call of a transaction, and that none of them tells more than an error, against one.
func refuses(t *testing.T, what string, x *txn.Txn, want api.Errno) {
	t.Helper()
	for _, key := range texts("a", "", strings.Repeat("k", 49)) {
		val, has, e := x.Get(key)
		is(t, what+": Get", e, want)
		if val != "" || has {
			t.Errorf("%s: Get(%q) = %q, %v", what, key, val, has)
		}
		is(t, what+": Set", x.Set(key, "1"), want)
		is(t, what+": Cut", x.Cut(key), want)
		for _, most := range []int{-1, 0, 9} {
			l, e := x.Range("", key, most)
			is(t, what+": Range", e, want)
			if len(l) != 0 {
				t.Errorf("%s: Range = %v", what, l)
			}
		}
	}
	writes(t, x)
	is(t, what+": Commit", x.Commit(), want)
	writes(t, x)
}

// The chapter's examples.
func TestExamples(t *testing.T) {
	r := empty(t, 32)
	is(t, "Set", r.Set("a", "1"), api.OK)
	is(t, "Keep", r.Keep(), api.OK)
	x := begun(t, r)
	is(t, "Set", x.Set("b", "2"), api.OK)
	is(t, "Cut", x.Cut("a"), api.OK)
	gets(t, x, "a", "", false)
	ranges(t, x, "", "", 9, []api.Pair{{Key: "b", Val: "2"}})
	if val, has, e := r.Get("a"); val != "1" || !has || e != api.OK {
		t.Errorf("Get = %q, %v, %d", val, has, int(e))
	}
	is(t, "Commit", x.Commit(), api.OK)
	if val, has, e := r.Get("a"); val != "" || has || e != api.OK {
		t.Errorf("Get = %q, %v, %d", val, has, int(e))
	}
	is(t, "Set", x.Set("c", "3"), api.ErrDone)
	holds(t, "behind the commit", r, 3, []api.Pair{{Key: "b", Val: "2"}})
}

// The errors' numbers that the chapter names.
func TestNumbers(t *testing.T) {
	if api.ErrArg != 1 || api.ErrPair != 80 || api.ErrDone != 100 {
		t.Errorf("%d, %d, %d", int(api.ErrArg), int(api.ErrPair), int(api.ErrDone))
	}
}

// P10.1, R1: what is none, and what was not made by the package.
func TestNone(t *testing.T) {
	if x, e := txn.Begin(nil); x != nil || e != api.ErrArg {
		t.Errorf("Begin = %v, %d", x, int(e))
	}
	var none *txn.Txn
	refuses(t, "nil", none, api.ErrArg)
	none.Abort()
	refuses(t, "nil, that is over", none, api.ErrArg)
	made := new(txn.Txn)
	refuses(t, "not made by Begin", made, api.ErrArg)
	made.Abort()
	refuses(t, "not made by Begin, and over", made, api.ErrDone)
}

// R1: a tree without a store, and one of a store without a device.
func TestTreesOfNone(t *testing.T) {
	ofNone, e := tree.Of(new(store.Store))
	is(t, "Of", e, api.OK)
	for _, r := range []*tree.Tree{new(tree.Tree), ofNone} {
		x := begun(t, r)
		gets(t, x, "a", "", false)
		ranges(t, x, "", "", 9, nil)
		is(t, "Set", x.Set("a", "1"), api.OK)
		is(t, "Cut", x.Cut("b"), api.OK)
		gets(t, x, "a", "1", true)
		ranges(t, x, "", "", 9, []api.Pair{{Key: "a", Val: "1"}})
		writes(t, x, "a", "b")
		if e := x.Commit(); e == api.OK || r.Count() != 0 {
			t.Errorf("Commit: %d", int(e))
		}
		refuses(t, "a tree of none", x, api.ErrDone)
		is(t, "Commit without a write", begun(t, r).Commit(), api.OK)
	}
}

// P10.1: a transaction without a write sees what the tree has.
func TestBegin(t *testing.T) {
	for _, many := range []int{0, 1, 6, 7, 90} {
		r := kept(t, 400, many)
		x := begun(t, r)
		writes(t, x)
		all, e := walk.Range(r, "", "", math.MaxInt)
		if len(all) != many || e != api.OK {
			t.Fatalf("Range: %v, %d", all, int(e))
		}
		ranges(t, x, "", "", math.MaxInt, all)
		for i, p := range all {
			gets(t, x, p.Key, p.Val, true)
			gets(t, x, p.Key+"\x00", "", false)
			ranges(t, x, p.Key, "", 7, all[i:min(i+7, many)])
			ranges(t, x, "", p.Key, 9, all[:min(i, 9)])
		}
		gets(t, x, "", "", false)
		gets(t, x, strings.Repeat("k", 1000), "", false)
	}
}

// P10.1, P10.3: however a transaction came to be over, all calls but Abort are told so.
func TestOver(t *testing.T) {
	const epoch = 3
	was := []api.Pair{{Key: key(0), Val: "0"}}
	ends := map[string]func(*txn.Txn, *tree.Tree) api.Errno{
		"aborted": func(x *txn.Txn, _ *tree.Tree) api.Errno {
			x.Set("a", "1")
			x.Abort()
			return api.OK
		},
		"aborted without a write":   func(x *txn.Txn, _ *tree.Tree) api.Errno { x.Abort(); return api.OK },
		"committed without a write": func(x *txn.Txn, _ *tree.Tree) api.Errno { return x.Commit() },
		"committed": func(x *txn.Txn, r *tree.Tree) api.Errno {
			x.Set(key(0), "0")
			return x.Commit()
		},
		"not committed": func(x *txn.Txn, r *tree.Tree) api.Errno {
			x.Set("a", "1")
			r.Store().Device().Fuse(0)
			e := x.Commit()
			r.Store().Device().Restart(nil, -1, 0)
			if e != api.ErrDown {
				return e
			}
			return api.OK
		},
	}
	for what, end := range ends {
		r := kept(t, 32, 1)
		is(t, "Keep", r.Keep(), api.OK)
		x := begun(t, r)
		is(t, what, end(x, r), api.OK)
		now := uint64(epoch)
		if what == "committed" {
			now++
		}
		refuses(t, what, x, api.ErrDone)
		x.Abort()
		refuses(t, what+", aborted again", x, api.ErrDone)
		holds(t, what, r, now, was)
	}
}

// P10.2, P8.2: which entries may be set. What is refused leaves the key's write as it was.
func TestSet(t *testing.T) {
	r := empty(t, 64)
	x := begun(t, r)
	long, wide := strings.Repeat("k", 48), strings.Repeat("v", 100)
	is(t, "Set", x.Set("a", "first"), api.OK)
	is(t, "Cut", x.Cut("b"), api.OK)
	for _, c := range []struct {
		key, val string
		e        api.Errno
	}{
		{"a", wide + "v", api.ErrPair},
		{"b", wide + "v", api.ErrPair},
		{"c", wide + "v", api.ErrPair},
		{"", "", api.ErrPair},
		{"", "1", api.ErrPair},
		{"", wide + "v", api.ErrPair},
		{long + "k", "", api.ErrPair},
		{long + "k", wide + "v", api.ErrPair},
		{strings.Repeat("k", 5000), "", api.ErrPair},
		{"d", strings.Repeat("v", 5000), api.ErrPair},
		{long, wide, api.OK},
		{long[1:], "", api.OK},
		{"\x00", wide, api.OK},
		{"\xff", "\x00", api.OK},
	} {
		is(t, "Set "+strconv.Itoa(len(c.key))+" "+strconv.Itoa(len(c.val)), x.Set(c.key, c.val), c.e)
	}
	want := []api.Pair{{Key: "\x00", Val: wide}, {Key: "a", Val: "first"}, {Key: long[1:], Val: ""}, {Key: long, Val: wide}, {Key: "\xff", Val: "\x00"}}
	gets(t, x, "b", "", false)
	gets(t, x, "c", "", false)
	gets(t, x, long[1:], "", true)
	ranges(t, x, "", "", 9, want)
	writes(t, x, "\x00", "a", "b", long[1:], long, "\xff")
	holds(t, "ahead of the commit", r, 1, nil)
	is(t, "Commit", x.Commit(), api.OK)
	holds(t, "behind the commit", r, 2, want)
}

// P10.2: the write of a key is the last one.
func TestWritesFollow(t *testing.T) {
	r := kept(t, 64, 4)
	x := begun(t, r)
	for _, k := range texts(key(1), "new") {
		for _, val := range texts("one", "two", "") {
			is(t, "Set", x.Set(k, val), api.OK)
			gets(t, x, k, val, true)
		}
		for range 2 {
			is(t, "Cut", x.Cut(k), api.OK)
			gets(t, x, k, "", false)
		}
	}
	writes(t, x, key(1), "new")
	is(t, "Set", x.Set(key(1), "again"), api.OK)
	is(t, "Set", x.Set(key(2), "2"), api.OK) // as it is: a write as well
	is(t, "Set", x.Set(key(3), "short"), api.OK)
	is(t, "Cut", x.Cut(key(3)), api.OK)
	writes(t, x, key(1), key(2), key(3), "new")
	want := []api.Pair{{Key: key(0), Val: "0"}, {Key: key(1), Val: "again"}, {Key: key(2), Val: "2"}}
	ranges(t, x, "", "", 9, want)
	is(t, "Commit", x.Commit(), api.OK)
	holds(t, "behind the commit", r, 3, want)
}

// P10.2: any key may be cut, one that no entry can have, too; it is a write.
func TestCutAnyKey(t *testing.T) {
	r := kept(t, 64, 3)
	x := begun(t, r)
	odd := texts("", "\x00", strings.Repeat("k", 49), strings.Repeat("k", 5000), "\xff")
	for _, k := range odd {
		is(t, "Cut", x.Cut(k), api.OK)
		gets(t, x, k, "", false)
	}
	writes(t, x, odd...)
	want := []api.Pair{{Key: key(0), Val: "0"}, {Key: key(1), Val: "1"}, {Key: key(2), Val: "2"}}
	ranges(t, x, "", "", 9, want)
	is(t, "Commit", x.Commit(), api.OK)
	holds(t, "behind the commit", r, 3, want) // kept, though no entry has changed
}

// P10.2: ranges of entries and writes that lie among each other in all ways.
func TestRange(t *testing.T) {
	const many = 30
	r := kept(t, 400, many)
	x := begun(t, r)
	seen := map[string]string{}
	for i := range many {
		seen[key(i)] = strconv.Itoa(i)
	}
	set := func(k string) {
		is(t, "Set", x.Set(k, "new"), api.OK)
		seen[k] = "new"
	}
	cut := func(k string) {
		is(t, "Cut", x.Cut(k), api.OK)
		delete(seen, k)
	}
	set("0") // ahead of all, behind all, and many between two of the tree's
	set("00")
	set("z")
	cut("1")
	cut("zz")
	for i := range 8 {
		set(key(12) + strconv.Itoa(i))
		cut(key(20 + i)) // a leaf, and more, that is not seen any more
	}
	set(key(5))
	cut(key(0))
	set(key(6))
	cut(key(6) + "0")
	cut(key(many - 1))
	bounds := texts("", "\x00", "0", "00", "000", "1", "2", "z", "z0", "zz", "\xff")
	for i := range many {
		bounds = append(bounds, key(i))
	}
	for i := range 4 {
		bounds = append(bounds, key(12)+strconv.Itoa(i*2), key(i*7)+"\x00")
	}
	for _, from := range bounds {
		for _, to := range bounds {
			want := slices.DeleteFunc(pairsOf(seen), func(p api.Pair) bool { return p.Key < from || to != "" && p.Key >= to })
			for _, most := range []int{math.MinInt, -1, 0, 1, 2, 3, 9, len(want), math.MaxInt} {
				ranges(t, x, from, to, most, want[:min(max(most, 0), len(want))])
			}
			if t.Failed() {
				return
			}
		}
	}
}

// P10.2, P9.4: ranges that follow one another are all that it sees, each once.
func TestRangesFollow(t *testing.T) {
	r := kept(t, 400, 60)
	x := begun(t, r)
	for i := range 60 {
		switch i % 4 {
		case 0:
			x.Cut(key(i))
		case 1:
			x.Set(key(i), "new")
		case 2:
			x.Set(key(i)+"+", "new")
		}
	}
	all, e := x.Range("", "", math.MaxInt)
	if len(all) != 60 || e != api.OK {
		t.Fatalf("Range: %d, %d", len(all), int(e))
	}
	for wide := 1; wide < 62; wide++ {
		var told []api.Pair
		for from := ""; ; {
			l, e := x.Range(from, "", wide)
			is(t, "Range", e, api.OK)
			if len(l) == 0 {
				break
			}
			told = append(told, l...)
			from = l[len(l)-1].Key + "\x00"
		}
		if !slices.Equal(told, all) {
			t.Errorf("%d at once: %v", wide, told)
		}
	}
}

// P10.3: without a write nothing is done: there is no act, and what the tree was told since its last commit is not kept.
func TestCommitWithoutWrites(t *testing.T) {
	r := kept(t, 64, 3)
	is(t, "Set", r.Set("a", "not kept"), api.OK)
	d := r.Store().Device()
	d.Fuse(0)
	is(t, "Commit", begun(t, r).Commit(), api.OK)
	if d.Off() || r.Store().Super().Epoch != 2 || r.Count() != 4 {
		t.Errorf("off %v, Epoch %d, count %d", d.Off(), r.Store().Super().Epoch, r.Count())
	}
}

// P10.3: writes that change nothing are done, and the tree is kept.
func TestCommitOfNothingNew(t *testing.T) {
	r := kept(t, 64, 3)
	x := begun(t, r)
	is(t, "Set", x.Set(key(1), "1"), api.OK)
	is(t, "Commit", x.Commit(), api.OK)
	y := begun(t, r)
	is(t, "Cut", y.Cut("x"), api.OK)
	is(t, "Commit", y.Commit(), api.OK)
	holds(t, "behind both", r, 4, []api.Pair{{Key: key(0), Val: "0"}, {Key: key(1), Val: "1"}, {Key: key(2), Val: "2"}})
}

// P10.3, P10.4: Abort leaves the tree, what it was told since its last commit included.
func TestAbort(t *testing.T) {
	r := kept(t, 64, 3)
	is(t, "Set", r.Set("a", "not kept"), api.OK)
	x := begun(t, r)
	x.Set("b", "2")
	x.Cut(key(0))
	x.Abort()
	holds(t, "aborted", r, 2, []api.Pair{{Key: key(0), Val: "0"}, {Key: key(1), Val: "1"}, {Key: key(2), Val: "2"}, {Key: "a", Val: "not kept"}})
	r.Store().Abort()
}

// P10.3: a commit keeps the tree, with what it was told since its last commit.
func TestCommitKeepsTheTree(t *testing.T) {
	r := kept(t, 64, 1)
	is(t, "Set", r.Set("a", "told ahead"), api.OK)
	x := begun(t, r)
	is(t, "Set", x.Set("b", "2"), api.OK)
	is(t, "Set", r.Set("c", "told meanwhile"), api.OK)
	want := []api.Pair{{Key: key(0), Val: "0"}, {Key: "a", Val: "told ahead"}, {Key: "b", Val: "2"}, {Key: "c", Val: "told meanwhile"}}
	ranges(t, x, "", "", 9, want)
	is(t, "Commit", x.Commit(), api.OK)
	r.Store().Device().Restart(nil, -1, 0)
	s, e := store.Open(r.Store().Device())
	is(t, "Open", e, api.OK)
	r, _ = tree.Of(s)
	holds(t, "opened", r, 3, want)
}

// P10.2, P10.3: two transactions of a tree: each has writes of its own, and sees what the other one has committed.
func TestTwoOfATree(t *testing.T) {
	r := kept(t, 64, 2)
	x, y := begun(t, r), begun(t, r)
	is(t, "Set", x.Set("a", "x"), api.OK)
	is(t, "Cut", x.Cut(key(0)), api.OK)
	is(t, "Set", y.Set(key(1), "y"), api.OK)
	is(t, "Set", y.Set("b", "y"), api.OK)
	gets(t, y, "a", "", false)
	gets(t, y, key(0), "0", true)
	gets(t, x, key(1), "1", true)
	is(t, "Commit", x.Commit(), api.OK)
	gets(t, y, "a", "x", true)
	gets(t, y, key(0), "", false)
	ranges(t, y, "", "", 9, []api.Pair{{Key: key(1), Val: "y"}, {Key: "a", Val: "x"}, {Key: "b", Val: "y"}})
	writes(t, y, key(1), "b")
	is(t, "Commit", y.Commit(), api.OK)
	holds(t, "behind both", r, 4, []api.Pair{{Key: key(1), Val: "y"}, {Key: "a", Val: "x"}, {Key: "b", Val: "y"}})
}

// R4: what is answered is nobody else's.
func TestAnswersAreNew(t *testing.T) {
	r := kept(t, 64, 9)
	x := begun(t, r)
	for i := range 9 {
		x.Set(key(i)+"+", "new")
		x.Cut(key(i))
	}
	var want []api.Pair
	var keys []string
	for i := range 9 {
		want = append(want, api.Pair{Key: key(i) + "+", Val: "new"})
		keys = append(keys, key(i), key(i)+"+")
	}
	for range 3 {
		l, e := x.Range("", "", 99)
		if !slices.Equal(l, want) || e != api.OK {
			t.Fatalf("Range = %v, %d", l, int(e))
		}
		l = l[:cap(l)]
		for i := range l {
			l[i] = api.Pair{Key: "spoilt"}
		}
		w := x.Writes()
		if !slices.Equal(w, keys) {
			t.Fatalf("Writes = %v", w)
		}
		w = w[:cap(w)]
		for i := range w {
			w[i] = "spoilt"
		}
	}
	is(t, "Commit", x.Commit(), api.OK)
	holds(t, "behind the commit", r, 3, want)
}
