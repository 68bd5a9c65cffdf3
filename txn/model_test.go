package txn_test

import (
	"bytes"
	"maps"
	"math"
	"slices"
	"strconv"
	"strings"
	"testing"

	"cambist/api"
	"cambist/store"
	"cambist/tree"
	"cambist/txn"
)

// mixer gives numbers in no plain order, the same ones in each run.
type mixer uint64

func (x *mixer) upTo(n int) int {
	*x = *x*6364136223846793005 + 1442695040888963407
	return int(uint64(*x)>>33) % n
}

// key is one of so many, of any bytes.
func (x *mixer) key(many int) string {
	n := x.upTo(many)
	key := string([]byte{byte(n * 89), byte(n >> 3)})
	switch n % 4 {
	case 0:
		key += strings.Repeat(string([]byte{byte(n)}), n%47)
	case 1:
		key = "k" + strconv.Itoa(n)
	}
	return key
}

// pairsOf are a map's entries, rising.
func pairsOf(m map[string]string) []api.Pair {
	var l []api.Pair
	for _, key := range slices.Sorted(maps.Keys(m)) {
		l = append(l, api.Pair{Key: key, Val: m[key]})
	}
	return l
}

// sameKept tells whether two lists of sectors are the same, byte by byte.
func sameKept(a, b []api.Kept) bool {
	return slices.EqualFunc(a, b, func(a, b api.Kept) bool { return a.Sector == b.Sector && bytes.Equal(a.Data, b.Data) })
}

// life is a tree, with a transaction; what both should tell; and a twin, a tree that is told by hand what a commit has to do to it.
type life struct {
	t     *testing.T
	r     *tree.Tree
	twin  *tree.Tree
	x     *txn.Txn
	now   map[string]string
	seen  map[string]string
	wrote map[string]bool // whether a key is cut
}

// begin begins a transaction.
func (l *life) begin() {
	l.t.Helper()
	l.x = begun(l.t, l.r)
	l.seen, l.wrote = maps.Clone(l.now), map[string]bool{}
}

func (l *life) set(key, val string) {
	l.t.Helper()
	is(l.t, "Set", l.x.Set(key, val), api.OK)
	l.seen[key], l.wrote[key] = val, false
}

func (l *life) cut(key string) {
	l.t.Helper()
	is(l.t, "Cut", l.x.Cut(key), api.OK)
	delete(l.seen, key)
	l.wrote[key] = true
}

// commit commits the transaction, and lets its twin be told the same, key by key as they rise.
func (l *life) commit() {
	l.t.Helper()
	is(l.t, "Commit", l.x.Commit(), api.OK)
	if len(l.wrote) == 0 {
		return
	}
	for _, key := range slices.Sorted(maps.Keys(l.wrote)) {
		if l.wrote[key] {
			_, e := l.twin.Cut(key)
			is(l.t, "Cut", e, api.OK)
		} else {
			is(l.t, "Set", l.twin.Set(key, l.seen[key]), api.OK)
		}
	}
	is(l.t, "Keep", l.twin.Keep(), api.OK)
	l.now = l.seen
}

// agree holds what a transaction sees, and its tree, against what they should be.
func (l *life) agree(x *mixer, many int) {
	l.t.Helper()
	all := pairsOf(l.seen)
	ranges(l.t, l.x, "", "", math.MaxInt, all)
	from, to, most := x.key(many), x.key(many), x.upTo(len(all)+2)
	some := slices.DeleteFunc(slices.Clone(all), func(p api.Pair) bool { return p.Key < from || p.Key >= to })
	ranges(l.t, l.x, from, to, most, some[:min(most, len(some))])
	writes(l.t, l.x, slices.Sorted(maps.Keys(l.wrote))...)
	for range 5 {
		key := x.key(many)
		val, has := l.seen[key]
		gets(l.t, l.x, key, val, has)
	}
	holds(l.t, "the tree", l.r, l.twin.Store().Super().Epoch, pairsOf(l.now))
}

// same holds the device of the tree against its twin's, byte by byte: all that a commit does is done in the same order, and nothing else is.
func (l *life) same() {
	l.t.Helper()
	one, other := l.r.Store().Device(), l.twin.Store().Device()
	if !sameKept(one.Lasting(), other.Lasting()) || !sameKept(one.Cached(), other.Cached()) {
		l.t.Errorf("the device is not as its twin")
	}
}

// P10.2 to P10.4, R5: whatever is written, what is seen is what should be; and what is committed is what a tree that is told the same by the keys' order is.
func TestTransactionsInUse(t *testing.T) {
	for seed := range 20 {
		x := mixer(seed)
		l := &life{t: t, r: empty(t, 500), twin: empty(t, 500), now: map[string]string{}}
		many := 1 + x.upTo(250)
		for i := range 40 {
			l.begin()
			growth := 4 + 10*(i/10%2)
			for range x.upTo(5) {
				for range x.upTo(12) {
					if x.upTo(20) < growth {
						l.set(x.key(many), strings.Repeat("v", x.upTo(101)))
					} else {
						l.cut(x.key(many))
					}
				}
				l.agree(&x, many)
			}
			if x.upTo(4) == 0 {
				l.x.Abort()
			} else {
				l.commit()
			}
			l.same()
			if x.upTo(5) == 0 {
				l.reopen()
			}
			if t.Failed() {
				t.Fatalf("seed %d, step %d", seed, i)
			}
		}
	}
}

// reopen lets the power go and come back, and opens both trees again.
func (l *life) reopen() {
	for _, r := range []**tree.Tree{&l.r, &l.twin} {
		d := (*r).Store().Device()
		d.Restart(nil, -1, 0)
		s, e := store.Open(d)
		is(l.t, "Open", e, api.OK)
		*r, _ = tree.Of(s)
	}
}

// P10.3, R5: in which order writes are told makes no difference.
func TestOrderOfWrites(t *testing.T) {
	var first *tree.Tree
	for seed := range 12 {
		m := mixer(seed)
		r := kept(t, 400, 80)
		x := begun(t, r)
		left := make([]int, 80)
		for i := range left {
			left[i] = i
		}
		for len(left) > 0 {
			at := m.upTo(len(left))
			if i := left[at]; i%3 == 0 {
				is(t, "Cut", x.Cut(key(i)), api.OK)
			} else {
				is(t, "Set", x.Set(key(i)+"+", "new"), api.OK)
			}
			left = slices.Delete(left, at, at+1)
		}
		is(t, "Commit", x.Commit(), api.OK)
		if first == nil {
			first = r
		}
		if !sameKept(r.Store().Device().Lasting(), first.Store().Device().Lasting()) {
			t.Errorf("seed %d: not as in another order", seed)
		}
	}
}

// P10.2: many writes, and many entries, in short time.
func TestManyWrites(t *testing.T) {
	const many = 4000
	r := empty(t, api.MaxSectors)
	x := begun(t, r)
	for i := range many {
		is(t, "Set", x.Set(key(i*1999%many), strings.Repeat("v", 100)), api.OK)
	}
	is(t, "Commit", x.Commit(), api.OK)
	y := begun(t, r)
	for i := range many {
		is(t, "Set", y.Set(key(i)+"+", "new"), api.OK)
	}
	l, e := y.Range("", "", math.MaxInt)
	if len(l) != 2*many || e != api.OK {
		t.Errorf("Range: %d, %d", len(l), int(e))
	}
	for i := 1; i < len(l); i++ {
		if l[i-1].Key >= l[i].Key {
			t.Fatalf("%q is behind %q", l[i].Key, l[i-1].Key)
		}
	}
	if w := y.Writes(); len(w) != many || !slices.IsSorted(w) {
		t.Errorf("Writes: %d", len(w))
	}
}
