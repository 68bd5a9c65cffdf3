package walk_test

import (
	"maps"
	"slices"
	"strconv"
	"strings"
	"testing"

	"cambist/api"
	"cambist/store"
	"cambist/tree"
	"cambist/walk"
)

// pagesOf are the pages of a tree of a store, read one by one, its leaves in order.
func pagesOf(t *testing.T, s *store.Store, at, depth int) (pages, leaves []int) {
	t.Helper()
	if depth == 0 {
		return nil, nil
	}
	p, e := s.Page(at)
	if e != api.OK {
		t.Fatalf("the page %d: %d", at, int(e))
	}
	pages = []int{at}
	if depth == 1 {
		return pages, pages
	}
	for _, kid := range p.Kids {
		below, more := pagesOf(t, s, kid, depth-1)
		pages, leaves = append(pages, below...), append(leaves, more...)
	}
	return pages, leaves
}

// mixer gives numbers in no plain order, the same ones in each run.
type mixer uint64

func (x *mixer) upTo(n int) int {
	*x = *x*6364136223846793005 + 1442695040888963407
	return int(uint64(*x)>>33) % n
}

// key is one of so many: some of them short, some as long as may be, of any bytes.
func (x *mixer) key(many int) string {
	n := x.upTo(many)
	key := string([]byte{byte(n * 89), byte(n >> 3)})
	switch n % 5 {
	case 0:
		key += strings.Repeat(string([]byte{byte(n)}), n%47)
	case 1:
		key = "k" + strconv.Itoa(n)
	case 2:
		key += "\x00"
	}
	return key
}

// agrees holds what walk tells of a tree against the entries that it should have, and against its pages.
func agrees(t *testing.T, x *mixer, r *tree.Tree, m map[string]string) {
	t.Helper()
	var want []api.Pair
	for _, k := range slices.Sorted(maps.Keys(m)) {
		want = append(want, api.Pair{Key: k, Val: m[k]})
	}
	tells(t, r, "", want)
	from, to, most := x.key(300), x.key(300), x.upTo(len(want)+2)
	some := slices.DeleteFunc(slices.Clone(want), func(p api.Pair) bool { return p.Key < from || p.Key >= to })
	if got, e := walk.Range(r, from, to, most); !slices.Equal(got, some[:min(most, len(some))]) || e != api.OK {
		t.Errorf("Range(%q, %q, %d) = %v, %d; want %v", from, to, most, got, int(e), some)
	}
	own, _ := pagesOf(t, r.Store(), r.Root(), r.Depth())
	pages, e := walk.Check(r)
	if slices.Sort(own); !slices.Equal(pages, own) || e != api.OK {
		t.Errorf("Check = %v, %d; want %v", pages, int(e), own)
	}
	pool := r.Store().Pool()
	each := slices.Concat(pages, r.Store().Lists(), pool.Free, pool.Limbo)
	slices.Sort(each)
	for i := range max(len(each), pool.High-2) {
		if i >= len(each) || each[i] != 2+i {
			t.Errorf("the pages %v below %d are not each just one thing's", each, pool.High)
			break
		}
	}
}

// P9.1, P9.3, P9.4, W7: whatever is set, cut and kept, entry by entry, what is told is what should be there, and the pages are as they should be; behind a restart, too.
func TestTreeInUse(t *testing.T) {
	for seed := range 15 {
		x := mixer(seed)
		r, now := empty(t, 400), map[string]string{}
		last := maps.Clone(now)
		many := 1 + x.upTo(250)
		for i := range 240 {
			growth := 3 + 12*(i/60%2)
			for range 1 + x.upTo(4) {
				k, v := x.key(many), strings.Repeat("v", x.upTo(101))
				if x.upTo(20) < growth {
					is(t, "Set", r.Set(k, v), api.OK)
					now[k] = v
				} else {
					_, e := r.Cut(k)
					is(t, "Cut", e, api.OK)
					delete(now, k)
				}
			}
			if x.upTo(10) == 0 {
				is(t, "Keep", r.Keep(), api.OK)
				last = maps.Clone(now)
			}
			if x.upTo(40) == 0 {
				r.Store().Device().Restart(nil, -1, 0)
				s, e := store.Open(r.Store().Device())
				is(t, "Open", e, api.OK)
				r, _ = tree.Of(s)
				now = maps.Clone(last)
			}
			agrees(t, &x, r, now)
			if t.Failed() {
				t.Fatalf("seed %d, step %d", seed, i)
			}
		}
	}
}

// P9.4: the greatest tree, and in short time.
func TestGreatestTree(t *testing.T) {
	r, many := empty(t, api.MaxSectors), 8000
	for i := range many {
		if e := r.Set(key(i*4799%many), strings.Repeat("v", 100)); e != api.OK {
			t.Fatalf("Set %d: %d", i, int(e))
		}
	}
	is(t, "Keep", r.Keep(), api.OK)
	for range 5 {
		l, e := walk.Range(r, "", "", many)
		if len(l) != many || e != api.OK {
			t.Fatalf("Range: %d, %d", len(l), int(e))
		}
		for i, p := range l {
			if p.Key != key(i) {
				t.Fatalf("%d: %v", i, p)
			}
		}
		if pages, e := walk.Check(r); len(pages) < many/6 || e != api.OK {
			t.Fatalf("Check: %d, %d", len(pages), int(e))
		}
	}
}

// P9.1: a cursor whose tree is changed meanwhile is told something, or an error, and comes to an end.
func TestChangedMeanwhile(t *testing.T) {
	for seed := range 60 {
		x := mixer(seed)
		r := filled(t, 400, 150)
		r.Keep()
		c := walk.From(r, key(x.upTo(20)))
		for i := 0; ; i++ {
			p, has, e := c.Next()
			if e != api.OK && (has || p != (api.Pair{})) {
				t.Errorf("Next = %v, %v, %d", p, has, int(e))
			}
			if !has {
				break
			}
			if i > 5000 {
				t.Fatalf("no end")
			}
			for range x.upTo(5) {
				r.Set(x.key(300), "new")
				r.Cut(key(x.upTo(150)))
				if x.upTo(10) == 0 {
					r.Keep()
				}
			}
		}
		if _, e := walk.Check(r); e != api.OK {
			t.Errorf("Check: %d", int(e))
		}
	}
}
