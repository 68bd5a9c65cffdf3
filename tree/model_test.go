package tree_test

import (
	"bytes"
	"maps"
	"slices"
	"strconv"
	"strings"
	"testing"

	"cambist/api"
	"cambist/device"
	"cambist/store"
	"cambist/tree"
)

// form is what a tree's pages tell, read one by one: its entries, in order, and where its leaves and branches lie.
type form struct {
	pairs            []api.Pair
	leaves, branches []int
}

func (f form) pages() []int { return slices.Concat(f.branches, f.leaves) }

// looker reads a tree of a store and holds it against the words of the chapter.
type looker struct {
	form
	s *store.Store
	// wrong are what is not as it should be.
	wrong []string
}

func (l *looker) say(parts ...string) { l.wrong = append(l.wrong, strings.Join(parts, " ")) }

// look goes through a tree of a depth whose keys are not before from, and before to (any, if that is empty).
func (l *looker) look(n, depth int, from, to string, top bool) {
	p, e := l.s.Page(n)
	what := "the page " + strconv.Itoa(n)
	kind, has, least := api.PBranch, len(p.Keys), 6
	keys := p.Keys
	if depth == 1 {
		kind, has, least = api.PLeaf, len(p.Pairs), 3
		for _, pair := range p.Pairs {
			keys = append(keys, pair.Key)
		}
	}
	if top {
		least = 1
	}
	if e != api.OK || p.Kind != kind {
		l.say(what, "is of the kind", strconv.Itoa(p.Kind), "not", strconv.Itoa(kind))
		return
	}
	if has < least {
		l.say(what, "has", strconv.Itoa(has), "of", strconv.Itoa(least))
	}
	for _, key := range keys {
		if key < from || to != "" && key >= to {
			l.say(what, "has", strconv.Quote(key), "outside of", strconv.Quote(from), strconv.Quote(to))
		}
	}
	if depth == 1 {
		l.pairs, l.leaves = append(l.pairs, p.Pairs...), append(l.leaves, n)
		return
	}
	l.branches = append(l.branches, n)
	for i, kid := range p.Kids {
		low, high := from, to
		if i > 0 {
			low = p.Keys[i-1]
		}
		if i < len(p.Keys) {
			high = p.Keys[i]
		}
		l.look(kid, depth-1, low, high, false)
	}
}

// formOf is a tree's form, held against the chapter's words, and against its Count; and what each page of the store is.
func formOf(t *testing.T, what string, r *tree.Tree) form {
	t.Helper()
	l := &looker{s: r.Store()}
	if (r.Root() == 0) != (r.Depth() == 0) || (r.Count() == 0) != (r.Depth() == 0) {
		l.say("root", strconv.Itoa(r.Root()), "depth", strconv.Itoa(r.Depth()), "count", strconv.Itoa(r.Count()))
	}
	if r.Depth() > 0 {
		l.look(r.Root(), r.Depth(), "", "", true)
	}
	if len(l.pairs) != r.Count() {
		l.say("Count", strconv.Itoa(r.Count()), "of", strconv.Itoa(len(l.pairs)))
	}
	for i := 1; i < len(l.pairs); i++ {
		if l.pairs[i-1].Key >= l.pairs[i].Key {
			l.say("the keys do not rise")
		}
	}
	pool := r.Store().Pool()
	all := slices.Sorted(slices.Values(slices.Concat(l.pages(), r.Store().Lists(), pool.Free, pool.Limbo)))
	for i := range max(len(all), pool.High-2) {
		if i >= len(all) || all[i] != 2+i {
			l.say("the pages", strings.Join(texts(all), " "), "below", strconv.Itoa(pool.High), "are not each just one thing's")
			break
		}
	}
	for _, w := range l.wrong {
		t.Errorf("%s: %s", what, w)
	}
	return l.form
}

func texts(l []int) []string {
	var s []string
	for _, n := range l {
		s = append(s, strconv.Itoa(n))
	}
	return s
}

// pairsOf are a map's entries, rising.
func pairsOf(m map[string]string) []api.Pair {
	var l []api.Pair
	for _, key := range slices.Sorted(maps.Keys(m)) {
		l = append(l, api.Pair{Key: key, Val: m[key]})
	}
	return l
}

func samePool(a, b api.Pool) bool {
	return a.High == b.High && slices.Equal(a.Free, b.Free) && slices.Equal(a.Limbo, b.Limbo)
}

// kept is what a commit left: the entries, where the tree is, the pool, and the bytes of its pages.
type kept struct {
	pairs              map[string]string
	root, depth, count int
	pool               api.Pool
	lists              []int
	held               map[int][]byte
}

// life is a tree, and what it should hold: now, and behind the last commit.
type life struct {
	t    *testing.T
	r    *tree.Tree
	now  map[string]string
	last kept
	// quiet leaves out what is asked behind each call: for long runs that only lead somewhere.
	quiet bool
}

// empty is a tree on a new device.
func empty(t *testing.T, sectors int) *life {
	t.Helper()
	d, e := device.New(sectors)
	if e != api.OK {
		t.Fatalf("New(%d): %d", sectors, int(e))
	}
	s, e := store.Format(d)
	if e != api.OK {
		t.Fatalf("Format: %d", int(e))
	}
	r, e := tree.Of(s)
	if e != api.OK {
		t.Fatalf("Of: %d", int(e))
	}
	l := &life{t: t, r: r, now: map[string]string{}}
	l.last = l.keeping()
	l.agree("empty")
	return l
}

func (l *life) device() *device.Device { return l.r.Store().Device() }

// keeping is what the store's last commit has, that of the tree as it is now.
func (l *life) keeping() kept {
	l.t.Helper()
	k := kept{pairs: maps.Clone(l.now), root: l.r.Root(), depth: l.r.Depth(), count: l.r.Count(), pool: l.r.Store().Pool(), lists: l.r.Store().Lists(), held: map[int][]byte{}}
	for _, n := range slices.Concat(formOf(l.t, "kept", l.r).pages(), k.lists) {
		k.held[n], _ = l.device().Read(n)
	}
	return k
}

// agree holds the tree against what it should hold, and the pages of the last commit against what they were.
func (l *life) agree(what string) {
	l.t.Helper()
	if l.quiet {
		return
	}
	if got, want := formOf(l.t, what, l.r).pairs, pairsOf(l.now); !slices.Equal(got, want) {
		l.t.Errorf("%s: the pages tell %v, want %v", what, got, want)
	}
	if l.r.Count() != len(l.now) {
		l.t.Errorf("%s: Count %d, want %d", what, l.r.Count(), len(l.now))
	}
	for n, was := range l.last.held {
		if is, e := l.device().Read(n); e != api.OK || !bytes.Equal(is, was) {
			l.t.Errorf("%s: the page %d of the last commit is written", what, n)
		}
	}
}

// failed is a call that was told an error: all is as the last commit left it.
func (l *life) failed(what string, e api.Errno) {
	l.t.Helper()
	what += " is told " + strconv.Itoa(int(e))
	l.now = maps.Clone(l.last.pairs)
	k, s := l.last, l.r.Store()
	if l.r.Root() != k.root || l.r.Depth() != k.depth || l.r.Count() != k.count {
		l.t.Errorf("%s: root %d, depth %d, count %d; want %d, %d, %d", what, l.r.Root(), l.r.Depth(), l.r.Count(), k.root, k.depth, k.count)
	}
	if !samePool(s.Pool(), k.pool) || !slices.Equal(s.Lists(), k.lists) {
		l.t.Errorf("%s: Pool %v, Lists %v; want %v, %v", what, s.Pool(), s.Lists(), k.pool, k.lists)
	}
	if !l.device().Off() {
		l.agree(what)
	}
}

func (l *life) set(key, val string) api.Errno {
	l.t.Helper()
	what := "Set(" + strconv.Quote(key) + ")"
	e := l.r.Set(key, val)
	if e != api.OK {
		l.failed(what, e)
		return e
	}
	l.now[key] = val
	l.agree(what)
	return e
}

func (l *life) cut(key string) api.Errno {
	l.t.Helper()
	what := "Cut(" + strconv.Quote(key) + ")"
	_, had := l.now[key]
	is, e := l.r.Cut(key)
	if e != api.OK {
		if is {
			l.t.Errorf("%s = true, %d", what, int(e))
		}
		l.failed(what, e)
		return e
	}
	if is != had {
		l.t.Errorf("%s = %v, want %v", what, is, had)
	}
	delete(l.now, key)
	l.agree(what)
	return e
}

func (l *life) get(key string) api.Errno {
	l.t.Helper()
	what := "Get(" + strconv.Quote(key) + ")"
	want, had := l.now[key]
	val, is, e := l.r.Get(key)
	if e != api.OK {
		if is || val != "" {
			l.t.Errorf("%s = %q, %v, %d", what, val, is, int(e))
		}
		l.failed(what, e)
		return e
	}
	if val != want || is != had {
		l.t.Errorf("%s = %q, %v; want %q, %v", what, val, is, want, had)
	}
	return e
}

func (l *life) keep() api.Errno {
	l.t.Helper()
	epoch := l.r.Store().Super().Epoch
	e := l.r.Keep()
	if e != api.OK {
		l.failed("Keep", e)
		return e
	}
	super := l.r.Store().Super()
	if super.Root != l.r.Root() || super.Depth != l.r.Depth() || super.Count != l.r.Count() || super.Epoch != epoch+1 {
		l.t.Errorf("Keep: Super %v; root %d, depth %d, count %d", super, l.r.Root(), l.r.Depth(), l.r.Count())
	}
	l.last = l.keeping()
	l.agree("Keep")
	return e
}

// reopen goes on with the tree that the device holds, which is that of the last commit.
func (l *life) reopen(what string) {
	l.t.Helper()
	s, e := store.Open(l.device())
	if e != api.OK {
		l.t.Fatalf("%s: Open: %d", what, int(e))
	}
	l.r, _ = tree.Of(s)
	l.failed(what, api.OK)
}

// mixer gives numbers in no plain order, the same ones in each run.
type mixer uint64

func (x *mixer) upTo(n int) int {
	*x = *x*6364136223846793005 + 1442695040888963407
	return int(uint64(*x)>>33) % n
}

// key is one of so many: some of them short, some as long as may be, of any bytes.
func (x *mixer) key(many int) string {
	n := x.upTo(many)
	key := string([]byte{byte(n * 89), byte(n >> 3)})
	switch n % 5 {
	case 0:
		key += strings.Repeat(string([]byte{byte(n)}), n%47)
	case 1:
		key = "k" + strconv.Itoa(n)
	case 2:
		key += "\x00"
	}
	return key
}

func (x *mixer) val() string { return strings.Repeat(string([]byte{byte(x.upTo(256))}), x.upTo(101)) }

// step tells a tree something: the more of growth the more is set, and the less is cut.
func (l *life) step(x *mixer, many, growth int) api.Errno {
	l.t.Helper()
	switch n := x.upTo(20); {
	case n < 2:
		return l.keep()
	case n < 4:
		return l.get(x.key(many))
	case n < 4+growth:
		return l.set(x.key(many), x.val())
	}
	return l.cut(x.key(many))
}

// P8.2, P8.4 to P8.6: whatever is set, cut and kept, the tree is what it should be behind each call, and what was kept is not written.
func TestTreeInUse(t *testing.T) {
	for seed := range 60 {
		x := mixer(seed)
		l := empty(t, 400)
		many := 1 + x.upTo(250)
		for i := range 300 {
			if e := l.step(&x, many, 4+8*(i/50%2)); e != api.OK {
				t.Errorf("told %d", int(e))
			}
			if i%50 == 49 {
				l.keep()
				l.reopen("Open")
			}
			if t.Failed() {
				t.Fatalf("seed %d, step %d", seed, i)
			}
		}
	}
}

// P8.2 to P8.6, W3: the same on small devices, with the power gone at any act: what fails leaves the last commit.
func TestTreeInNeed(t *testing.T) {
	told := map[api.Errno]int{}
	for seed := range 150 {
		x := mixer(seed)
		l := empty(t, 3+seed%60)
		many := 1 + x.upTo(120)
		for i := range 200 {
			if x.upTo(12) == 0 {
				l.device().Fuse(x.upTo(12) - 1)
			}
			e := l.step(&x, many, 8+i/40%4)
			told[e]++
			if e != api.OK && e != api.ErrFull && e != api.ErrDown {
				t.Errorf("told %d", int(e))
			}
			if l.device().Off() {
				l.comesBack(&x)
			}
			if t.Failed() {
				t.Fatalf("seed %d, step %d", seed, i)
			}
		}
	}
	if told[api.ErrFull] < 100 || told[api.ErrDown] < 100 {
		t.Errorf("told %v: too few errors for a test", told)
	}
}

// comesBack is the power that comes back, with some of what was not synced. Where a commit was cut at its last act it may have come to last.
func (l *life) comesBack(x *mixer) {
	l.t.Helper()
	var keep []int
	torn := -1
	for _, c := range l.device().Cached() {
		if c.Sector < 2 && x.upTo(2) == 0 {
			torn = c.Sector // a superblock that is torn is none, or the one that was there
		} else if c.Sector >= 2 && x.upTo(2) == 0 {
			keep = append(keep, c.Sector)
		}
	}
	l.device().Restart(keep, torn, x.upTo(1000))
	l.reopen("a restart")
}
