package tree_test

import (
	"slices"
	"strconv"
	"strings"
	"testing"

	"cambist/api"
	"cambist/device"
	"cambist/store"
	"cambist/tree"
)

// is holds an answer against the one that is asked for.
func is(t *testing.T, what string, got, want api.Errno) {
	t.Helper()
	if got != want {
		t.Errorf("%s: %d, want %d", what, int(got), int(want))
	}
}

// key is the i-th one, rising.
func key(i int) string { return strconv.Itoa(10000 + i) }

// filled is a tree of the first keys, set rising, each with its number.
func filled(t *testing.T, sectors, many int) *life {
	t.Helper()
	l := empty(t, sectors)
	l.quiet = true
	for i := range many {
		is(t, "Set", l.set(key(i), strconv.Itoa(i)), api.OK)
	}
	l.quiet = false
	l.agree("filled")
	return l
}

// The chapter's examples.
func TestExamples(t *testing.T) {
	l := empty(t, 32)
	is(t, "Set", l.set("a", "1"), api.OK)
	if val, had, e := l.r.Get("a"); val != "1" || !had || e != api.OK {
		t.Errorf("Get(a) = %q, %v, %d", val, had, int(e))
	}
	if val, had, e := l.r.Get("b"); val != "" || had || e != api.OK {
		t.Errorf("Get(b) = %q, %v, %d", val, had, int(e))
	}
	if l.r.Depth() != 1 || l.r.Count() != 1 || l.r.Root() != 2 {
		t.Errorf("depth %d, count %d, root %d", l.r.Depth(), l.r.Count(), l.r.Root())
	}
	for _, want := range []bool{true, false} {
		if had, e := l.r.Cut("a"); had != want || e != api.OK || l.r.Depth() != 0 || l.r.Count() != 0 || l.r.Root() != 0 {
			t.Errorf("Cut(a) = %v, %d; depth %d", had, int(e), l.r.Depth())
		}
	}
	is(t, "Set", l.r.Set("", ""), api.ErrPair)
}

// The errors' numbers, and the limits, that the chapter names.
func TestNumbers(t *testing.T) {
	if api.ErrArg != 1 || api.ErrPair != 80 || api.ErrTree != 81 || api.MaxKey != 48 || api.MaxVal != 100 || api.MaxLeaf != 6 || api.MaxKeys != 12 {
		t.Errorf("%d, %d, %d, %d, %d, %d, %d", int(api.ErrArg), int(api.ErrPair), int(api.ErrTree), api.MaxKey, api.MaxVal, api.MaxLeaf, api.MaxKeys)
	}
}

// P8.1, R1: a tree of no store, and the calls of none.
func TestNone(t *testing.T) {
	if r, e := tree.Of(nil); r != nil || e != api.ErrArg {
		t.Errorf("Of(nil) = %v, %d", r, int(e))
	}
	var r *tree.Tree
	for _, key := range []string{"a", "", strings.Repeat("k", 49)} {
		if val, had, e := r.Get(key); val != "" || had || e != api.ErrArg {
			t.Errorf("Get = %q, %v, %d", val, had, int(e))
		}
		is(t, "Set", r.Set(key, ""), api.ErrArg)
		if had, e := r.Cut(key); had || e != api.ErrArg {
			t.Errorf("Cut = %v, %d", had, int(e))
		}
	}
	is(t, "Keep", r.Keep(), api.ErrArg)
	if r.Root() != 0 || r.Depth() != 0 || r.Count() != 0 || r.Store() != nil {
		t.Errorf("%d, %d, %d, %v", r.Root(), r.Depth(), r.Count(), r.Store())
	}
}

// R1: a tree without a store, and one of a store without a device: they are empty, and stay so.
func TestHandMadeObjects(t *testing.T) {
	ofNone, e := tree.Of(new(store.Store))
	is(t, "Of", e, api.OK)
	for _, r := range []*tree.Tree{new(tree.Tree), ofNone} {
		for range 2 {
			if val, had, e := r.Get("a"); val != "" || had || e != api.OK {
				t.Errorf("Get = %q, %v, %d", val, had, int(e))
			}
			if had, e := r.Cut("a"); had || e != api.OK {
				t.Errorf("Cut = %v, %d", had, int(e))
			}
			is(t, "Set", r.Set("", ""), api.ErrPair)
			if e := r.Set("a", ""); e == api.OK {
				t.Errorf("Set = %d", int(e))
			}
			if e := r.Keep(); e == api.OK {
				t.Errorf("Keep = %d", int(e))
			}
			if r.Root() != 0 || r.Depth() != 0 || r.Count() != 0 {
				t.Errorf("%d, %d, %d", r.Root(), r.Depth(), r.Count())
			}
		}
	}
}

// P8.1: the tree of a store is that of its last commit, whatever was laid since; Store is the very one.
func TestOf(t *testing.T) {
	l := filled(t, 100, 30)
	s := l.r.Store()
	before, e := tree.Of(s)
	if e != api.OK || before.Root() != 0 || before.Depth() != 0 || before.Count() != 0 || before.Store() != s {
		t.Errorf("Of = %v, %d", before, int(e))
	}
	is(t, "Keep", l.keep(), api.OK)
	behind, e := tree.Of(s)
	if e != api.OK || behind.Root() != l.r.Root() || behind.Depth() != 2 || behind.Count() != 30 || behind.Store() != s {
		t.Errorf("Of = %v, %d", behind, int(e))
	}
	if l.r.Store() != s {
		t.Errorf("Store = %p, want %p", l.r.Store(), s)
	}
	if super := s.Super(); behind.Root() != super.Root || behind.Depth() != super.Depth || behind.Count() != super.Count {
		t.Errorf("root %d, depth %d, count %d of %v", behind.Root(), behind.Depth(), behind.Count(), super)
	}
}

// P8.2: what may be a key, and a value. What may not be changes nothing, and takes nothing back.
func TestPairs(t *testing.T) {
	for _, c := range []struct {
		key, val int
		e        api.Errno
	}{
		{0, 0, api.ErrPair}, {0, 1, api.ErrPair}, {1, 0, api.OK}, {1, 100, api.OK}, {1, 101, api.ErrPair}, {48, 0, api.OK}, {48, 100, api.OK},
		{48, 101, api.ErrPair}, {49, 0, api.ErrPair}, {49, 101, api.ErrPair}, {255, 0, api.ErrPair}, {256, 0, api.ErrPair}, {257, 0, api.ErrPair}, {304, 0, api.ErrPair}, {1, 256, api.ErrPair}, {1, 1 << 20, api.ErrPair}, {1 << 20, 0, api.ErrPair},
	} {
		l := empty(t, 32)
		l.set("first", "1")
		pool := l.r.Store().Pool()
		k, v := strings.Repeat("k", c.key), strings.Repeat("v", c.val)
		e := l.r.Set(k, v)
		is(t, "Set of "+strconv.Itoa(c.key)+", "+strconv.Itoa(c.val), e, c.e)
		if e == api.OK {
			l.now[k] = v
		} else if !samePool(l.r.Store().Pool(), pool) {
			t.Errorf("Pool %v, want %v", l.r.Store().Pool(), pool)
		}
		l.agree("Set")
		l.get(k)
		l.get("first")
	}
}

// P8.2: keys and values of any bytes, ordered as Go compares texts, and keys that begin one another.
func TestAnyBytes(t *testing.T) {
	l := empty(t, 200)
	keys := []string{"\x00", "\x00\x00", "\xff", "\xff\xff", "a", "a\x00", "a\xff", "b", "é", "\xc3", "|", "}", "a|b", "a|b|c", "a}", "\n", "-1", "10", "9", "A", strings.Repeat("\xff", 48), strings.Repeat("\x00", 48), strings.Repeat("a", 47), strings.Repeat("a", 48)}
	for i, k := range keys {
		l.set(k, strings.Repeat(k, i)[:min(100, i*len(k))])
	}
	l.keep()
	for _, k := range keys {
		l.get(k)
		l.get(k + "\x00")
		l.get(k[:len(k)-1])
	}
	for i, k := range keys {
		l.cut(k + "\x00")
		l.cut(keys[(i*7)%len(keys)])
	}
	if l.r.Depth() != 0 {
		t.Errorf("depth %d", l.r.Depth())
	}
}

// P8.2: Get and Cut of what may be no key tell that it has no value.
func TestNoKeys(t *testing.T) {
	for _, many := range []int{0, 1, 6, 40} {
		l := filled(t, 100, many)
		for _, k := range []string{"", strings.Repeat("1", 49), strings.Repeat("\xff", 1000), "0", "2"} {
			is(t, "Get", l.get(k), api.OK)
			is(t, "Cut", l.cut(k), api.OK)
		}
	}
}

// P8.2, P8.4: when a tree becomes deeper, and less deep, at the numbers at which its pages are full, whatever the order.
func TestDepths(t *testing.T) {
	orders := map[string]func(i, many int) int{
		"rising":  func(i, many int) int { return i },
		"falling": func(i, many int) int { return many - 1 - i },
		"mixed":   func(i, many int) int { return i * 7 % many },
		"ends":    func(i, many int) int { return (i%2)*(many-1-i/2) + (1-i%2)*(i/2) },
	}
	for what, order := range orders {
		for _, many := range []int{1, 6, 7, 8, 20, 41, 200} {
			if what == "mixed" && many%7 == 0 {
				continue
			}
			l := empty(t, 300)
			for i := range many {
				is(t, "Set", l.set(key(order(i, many)), ""), api.OK)
				if depth := l.r.Depth(); depth < depthAtLeast(i+1) || depth > depthAtMost(i+1) {
					t.Errorf("%s: depth %d of %d", what, depth, i+1)
				}
			}
			for back := range orders {
				if back == "mixed" && many%7 == 0 {
					continue
				}
				is(t, "Keep", l.keep(), api.OK)
				for i := range many {
					is(t, "Cut", l.cut(key(orders[back](i, many))), api.OK)
				}
				if l.r.Depth() != 0 || l.r.Root() != 0 || l.r.Count() != 0 {
					t.Errorf("%s: depth %d, root %d, count %d", back, l.r.Depth(), l.r.Root(), l.r.Count())
				}
				l.r.Store().Abort()
				l.reopen("taken back")
			}
			if t.Failed() {
				t.Fatalf("%s, %d", what, many)
			}
		}
	}
}

// depthAtLeast and depthAtMost are how deep a tree of so many entries may be: a leaf has 3 to 6, a branch 7 to 13 kids; a root fewer.
func depthAtLeast(many int) int {
	depth := 1
	for room := 6; room < many; room *= 13 {
		depth++
	}
	return depth
}

func depthAtMost(many int) int {
	depth := 1
	for need := 2 * 3; need <= many && many > 6; need *= 7 {
		depth++
	}
	return depth
}

// P8.2, P8.4: each order in which seven keys may be set, and others in which they are cut.
func TestAllOrders(t *testing.T) {
	d, _ := device.New(40)
	s, _ := store.Format(d)
	r, _ := tree.Of(s)
	seen := 0
	var permute func(l []int, k int)
	permute = func(l []int, k int) {
		if k == len(l) {
			seen++
			for _, i := range l {
				is(t, "Set", r.Set(key(i), strconv.Itoa(i)), api.OK)
			}
			if f := formOf(t, "all set", r); len(f.pairs) != len(l) || len(f.leaves) != 2 {
				t.Errorf("%v: %v", l, f)
			}
			for n := range l {
				i := l[(n*3+seen)%len(l)]
				if had, e := r.Cut(key(i)); !had || e != api.OK {
					t.Errorf("%v: Cut(%d) = %v, %d", l, i, had, int(e))
				}
				formOf(t, "cut", r)
			}
			if t.Failed() {
				t.Fatalf("%v", l)
			}
			return
		}
		for i := k; i < len(l); i++ {
			l[k], l[i] = l[i], l[k]
			permute(l, k+1)
			l[k], l[i] = l[i], l[k]
		}
	}
	permute([]int{0, 1, 2, 3, 4, 5, 6}, 0)
	if seen != 5040 || r.Count() != 0 {
		t.Errorf("%d orders, count %d", seen, r.Count())
	}
}

// P8.2, P8.4: each key alone cut out of a tree of three levels, all of whose leaves are as small, or as great, as may be.
func TestCutOfEach(t *testing.T) {
	small := filled(t, 500, 200)
	for {
		var spare []string // of each leaf with more than three
		for _, n := range formOf(t, "small", small.r).leaves {
			if p, _ := small.r.Store().Page(n); len(p.Pairs) > 3 {
				spare = append(spare, p.Pairs[0].Key)
			}
		}
		if len(spare) == 0 {
			break
		}
		for _, k := range spare {
			small.cut(k)
		}
	}
	great := filled(t, 500, 150)
	for range 3 {
		for _, n := range formOf(t, "great", great.r).leaves {
			if p, _ := great.r.Store().Page(n); len(p.Pairs) < 6 {
				great.set(p.Pairs[0].Key+"+", "")
			}
		}
	}
	for _, l := range []*life{small, great} {
		is(t, "Keep", l.keep(), api.OK)
		if l.r.Depth() != 3 {
			t.Errorf("depth %d", l.r.Depth())
		}
		for _, pair := range pairsOf(l.now) {
			for range 2 {
				l.cut(pair.Key)
				l.set(pair.Key+"-", "")
			}
			l.r.Store().Abort()
			l.reopen("taken back")
		}
	}
}

// P8.2: a value that is set anew, with the same one, too; and Count, which tells keys, not sets.
func TestSetAnew(t *testing.T) {
	l := filled(t, 100, 50)
	for i := range 50 {
		for _, val := range []string{"", "x", "x", strings.Repeat("y", 100), ""} {
			l.set(key(i), val)
			l.get(key(i))
		}
	}
	if l.r.Count() != 50 {
		t.Errorf("Count %d", l.r.Count())
	}
}

// Pages are laid anew where they change: what changes nothing lays nothing, and a leaf that lies where it lay leaves the branches as they are.
func TestNothingToLay(t *testing.T) {
	l := filled(t, 100, 50)
	l.keep()
	pool := l.r.Store().Pool()
	l.device().Fuse(0) // the next act would be told
	for i := range 50 {
		is(t, "Get", l.get(key(i)), api.OK)
		is(t, "Set of what is there", l.set(key(i), strconv.Itoa(i)), api.OK)
		is(t, "Cut of what is not there", l.cut(key(i)+"+"), api.OK)
	}
	if !samePool(l.r.Store().Pool(), pool) || l.device().Off() {
		t.Errorf("something is laid: %v, want %v", l.r.Store().Pool(), pool)
	}
	l.device().Fuse(-1)
	l.set(key(7), "new")
	l.device().Fuse(1)
	is(t, "Set in a fresh leaf", l.set(key(7), "newer"), api.OK)
	is(t, "Get", l.get(key(7)), api.OK)
	if l.device().Off() {
		t.Errorf("more than a leaf is laid")
	}
}

// P8.4: a page is laid in the place of the one that it follows: each set of a kept tree takes a page a level, and gives one a level.
func TestPlaces(t *testing.T) {
	l := filled(t, 200, 100)
	l.keep()
	depth := l.r.Depth()
	if depth < 3 {
		t.Fatalf("depth %d", depth)
	}
	before := formOf(t, "kept", l.r).pages()
	l.set(key(50), "new")
	limbo := l.r.Store().Pool().Limbo
	if len(limbo) != depth {
		t.Errorf("%d pages in limbo of the depth %d", len(limbo), depth)
	}
	for _, n := range limbo {
		if !slices.Contains(before, n) {
			t.Errorf("the page %d is in limbo, and was not the tree's", n)
		}
	}
	root, pool := l.r.Root(), l.r.Store().Pool()
	l.set(key(50), "newer")
	if l.r.Root() != root || !samePool(l.r.Store().Pool(), pool) {
		t.Errorf("fresh pages are not laid into again: root %d, %v; want %d, %v", l.r.Root(), l.r.Store().Pool(), root, pool)
	}
}

// P8.5: what is kept is found behind a restart, what is not is gone; a tree that is empty again, too.
func TestKeep(t *testing.T) {
	l := filled(t, 200, 100)
	l.device().Restart(nil, -1, 0)
	l.reopen("never kept")
	if l.r.Count() != 0 {
		t.Errorf("Count %d", l.r.Count())
	}
	for round := range 5 {
		for i := range 60 {
			l.set(key(i*(round+1)%61), strconv.Itoa(round))
		}
		is(t, "Keep", l.keep(), api.OK)
		is(t, "Keep, twice", l.keep(), api.OK)
		for i := range 30 {
			l.cut(key(i))
		}
		l.device().Restart(nil, -1, 0)
		l.reopen("a restart")
	}
	for k := range l.last.pairs {
		l.cut(k)
	}
	is(t, "Keep of an empty one", l.keep(), api.OK)
	if super := l.r.Store().Super(); super.Root != 0 || super.Depth != 0 || super.Count != 0 {
		t.Errorf("Super %v", super)
	}
	l.device().Restart(nil, -1, 0)
	l.reopen("empty")
	l.set("a", "1")
}

// R4, R5: two trees that are told the same are the same, page by page.
func TestTwins(t *testing.T) {
	a, b := filled(t, 200, 90), filled(t, 200, 90)
	for _, l := range []*life{a, b} {
		for i := range 50 {
			l.cut(key(i * 3))
			if i%20 == 0 {
				l.keep()
			}
		}
	}
	if a.r.Root() != b.r.Root() || a.r.Depth() != b.r.Depth() {
		t.Errorf("root %d, depth %d; %d, %d", a.r.Root(), a.r.Depth(), b.r.Root(), b.r.Depth())
	}
	if !samePool(a.r.Store().Pool(), b.r.Store().Pool()) || !slices.Equal(formOf(t, "a", a.r).pages(), formOf(t, "b", b.r).pages()) {
		t.Errorf("the pages are others")
	}
}

// A tree of as many entries as the greatest device has room for, and in short time.
func TestGreatestTree(t *testing.T) {
	l := empty(t, api.MaxSectors)
	l.quiet = true
	many := 8000
	for i := range many {
		if e := l.set(key(i*4799%many), strings.Repeat("v", 100)); e != api.OK {
			t.Fatalf("Set %d: %d", i, int(e))
		}
	}
	is(t, "Keep", l.keep(), api.OK)
	l.quiet = false
	l.agree("many")
	l.quiet = true
	for i := range many {
		if i%20 == 0 {
			is(t, "Get", l.get(key(i)), api.OK)
		}
		if e := l.cut(key(i)); e != api.OK {
			t.Fatalf("Cut %d: %d", i, int(e))
		}
	}
	l.quiet = false
	l.agree("none")
	is(t, "Keep", l.keep(), api.OK)
}
