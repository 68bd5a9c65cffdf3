package walk_test

import (
	"math"
	"slices"
	"strconv"
	"strings"
	"testing"

	"cambist/api"
	"cambist/device"
	"cambist/store"
	"cambist/tree"
	"cambist/walk"
)

// is holds an answer against the one that is asked for.
func is(t *testing.T, what string, got, want api.Errno) {
	t.Helper()
	if got != want {
		t.Errorf("%s: %d, want %d", what, int(got), int(want))
	}
}

// key is the i-th one, rising.
func key(i int) string { return strconv.Itoa(10000 + i) }

// empty is a tree on a new device.
func empty(t *testing.T, sectors int) *tree.Tree {
	t.Helper()
	d, e := device.New(sectors)
	if e != api.OK {
		t.Fatalf("New(%d): %d", sectors, int(e))
	}
	s, e := store.Format(d)
	if e != api.OK {
		t.Fatalf("Format: %d", int(e))
	}
	r, e := tree.Of(s)
	if e != api.OK {
		t.Fatalf("Of: %d", int(e))
	}
	return r
}

// filled is a tree of the first keys, set rising, each with its number.
func filled(t *testing.T, sectors, many int) *tree.Tree {
	t.Helper()
	r := empty(t, sectors)
	for i := range many {
		is(t, "Set", r.Set(key(i), strconv.Itoa(i)), api.OK)
	}
	return r
}

// entries are those of filled from the i-th on, ahead of the j-th.
func entries(i, j int) []api.Pair {
	var l []api.Pair
	for ; i < j; i++ {
		l = append(l, api.Pair{Key: key(i), Val: strconv.Itoa(i)})
	}
	return l
}

// all is what a cursor tells till it tells none, or an error: that is told again from then on.
func all(t *testing.T, what string, c *walk.Cursor) ([]api.Pair, api.Errno) {
	t.Helper()
	var l []api.Pair
	for {
		p, has, e := c.Next()
		if e == api.OK && has {
			l = append(l, p)
			continue
		}
		for range 3 {
			if q, again, f := c.Next(); has || p != (api.Pair{}) || again || q != (api.Pair{}) || f != e {
				t.Errorf("%s: Next = %v, %v, %d; then %v, %v, %d", what, p, has, int(e), q, again, int(f))
			}
		}
		return l, e
	}
}

// tells holds what a cursor, and a Range, tell from a key on against what they should.
func tells(t *testing.T, r *tree.Tree, from string, want []api.Pair) {
	t.Helper()
	what := "from " + strconv.Quote(from)
	if got, e := all(t, what, walk.From(r, from)); !slices.Equal(got, want) || e != api.OK {
		t.Errorf("%s: %v, %d; want %v", what, got, int(e), want)
	}
	if got, e := walk.Range(r, from, "", math.MaxInt); !slices.Equal(got, want) || e != api.OK {
		t.Errorf("%s: Range = %v, %d; want %v", what, got, int(e), want)
	}
}

// The chapter's examples.
func TestExamples(t *testing.T) {
	r := empty(t, 32)
	for i, k := range []string{"a", "b", "c"} {
		is(t, "Set", r.Set(k, strconv.Itoa(i+1)), api.OK)
	}
	tells(t, r, "b", []api.Pair{{Key: "b", Val: "2"}, {Key: "c", Val: "3"}})
	if l, e := walk.Range(r, "", "c", 9); !slices.Equal(l, []api.Pair{{Key: "a", Val: "1"}, {Key: "b", Val: "2"}}) || e != api.OK {
		t.Errorf("Range = %v, %d", l, int(e))
	}
	if l, e := walk.Range(r, "", "", 1); !slices.Equal(l, []api.Pair{{Key: "a", Val: "1"}}) || e != api.OK {
		t.Errorf("Range = %v, %d", l, int(e))
	}
	if l, e := walk.Check(r); !slices.Equal(l, []int{r.Root()}) || e != api.OK {
		t.Errorf("Check = %v, %d", l, int(e))
	}
}

// The errors' numbers that the chapter names.
func TestNumbers(t *testing.T) {
	if api.ErrArg != 1 || api.ErrTree != 81 || api.ErrShape != 90 {
		t.Errorf("%d, %d, %d", int(api.ErrArg), int(api.ErrTree), int(api.ErrShape))
	}
}

// P9.1, P9.2, R1: what is none, and what was not made by the package.
func TestNone(t *testing.T) {
	var none *walk.Cursor
	for _, c := range []*walk.Cursor{none, walk.From(nil, ""), walk.From(nil, "a"), {}} {
		if l, e := all(t, "of none", c); len(l) != 0 || e != api.ErrArg {
			t.Errorf("Next = %v, %d", l, int(e))
		}
	}
	if walk.From(nil, "a") == nil {
		t.Errorf("From is no cursor")
	}
	for _, most := range []int{-1, 0, 1, 9} {
		for _, to := range []string{"", "a", "z"} {
			if l, e := walk.Range(nil, "b", to, most); len(l) != 0 || e != api.ErrArg {
				t.Errorf("Range = %v, %d", l, int(e))
			}
		}
	}
	if l, e := walk.Check(nil); len(l) != 0 || e != api.ErrArg {
		t.Errorf("Check = %v, %d", l, int(e))
	}
}

// R1: a tree without a store, one of a store without a device, and one without an entry: they have none, and no page.
func TestEmpty(t *testing.T) {
	ofNone, e := tree.Of(new(store.Store))
	is(t, "Of", e, api.OK)
	cut := filled(t, 64, 20)
	for i := range 20 {
		cut.Cut(key(i))
	}
	for i, r := range []*tree.Tree{new(tree.Tree), ofNone, empty(t, 2), empty(t, 32), cut} {
		for _, from := range []string{"", "a", "\xff", strings.Repeat("k", 100)} {
			tells(t, r, from, nil)
		}
		if l, e := walk.Check(r); len(l) != 0 || e != api.OK {
			t.Errorf("%d: Check = %v, %d", i, l, int(e))
		}
	}
}

// P9.1: from each key, and between them, of trees of each depth.
func TestFromEach(t *testing.T) {
	for _, many := range []int{1, 2, 3, 6, 7, 13, 40, 41, 42, 90, 300} {
		r := filled(t, 400, many)
		tells(t, r, "", entries(0, many))
		tells(t, r, "0", entries(0, many))
		tells(t, r, "1", entries(0, many))
		for i := range many {
			tells(t, r, key(i), entries(i, many))
			tells(t, r, key(i)+"\x00", entries(i+1, many))
			tells(t, r, key(i)[:4]+"\xff", entries((i/10+1)*10, many))
		}
		tells(t, r, "2", nil)
		tells(t, r, key(0)+strings.Repeat("\xff", 1000), entries(1, many))
		tells(t, r, "\xff", nil)
	}
}

// P9.1: as long as the keys are before to, and fewer than most were told.
func TestRange(t *testing.T) {
	const many = 60
	r := filled(t, 400, many)
	// place is how many keys are before a text.
	place := func(s string) int {
		n := 0
		for n < many && key(n) < s {
			n++
		}
		return n
	}
	texts := []string{"", "0", "2", "\xff"}
	for i := range 20 {
		texts = append(texts, key(i*3), key(i*3+1)+"\x00")
	}
	for _, from := range texts {
		for _, to := range texts {
			for _, most := range []int{math.MinInt, -1, 0, 1, 2, 3, 7, 59, 60, math.MaxInt} {
				first, last := place(from), place(to)
				if to == "" {
					last = many
				}
				want := entries(first, last)
				want = want[:min(max(most, 0), len(want))]
				if l, e := walk.Range(r, from, to, most); !slices.Equal(l, want) || e != api.OK {
					t.Fatalf("Range(%q, %q, %d) = %v, %d; want %v", from, to, most, l, int(e), want)
				}
			}
		}
	}
}

// P9.1, R7: keys and values of any bytes, in the order in which Go compares them.
func TestAnyBytes(t *testing.T) {
	r := empty(t, 200)
	keys := []string{"\x00", "\x00\x00", "\xff", "\xff\xff", "a", "a\x00", "a\xff", "b", "é", "\xc3", "|", "}", "a|b", "a|b|c", "a}", "\n", "-1", "10", "9", "A", strings.Repeat("\xff", 48), strings.Repeat("\x00", 48), strings.Repeat("a", 47), strings.Repeat("a", 48)}
	for i, k := range keys {
		is(t, "Set", r.Set(k, strings.Repeat(k, i)[:min(100, i*len(k))]), api.OK)
	}
	var want []api.Pair
	for _, k := range slices.Sorted(slices.Values(keys)) {
		val, _, _ := r.Get(k)
		want = append(want, api.Pair{Key: k, Val: val})
	}
	for i, p := range want {
		tells(t, r, p.Key, want[i:])
		tells(t, r, p.Key+"\x00", slices.DeleteFunc(slices.Clone(want), func(q api.Pair) bool { return q.Key < p.Key+"\x00" }))
		if l, e := walk.Range(r, "", p.Key, 99); !slices.Equal(l, want[:i]) || e != api.OK {
			t.Errorf("Range to %q = %v, %d", p.Key, l, int(e))
		}
	}
	if l, e := walk.Range(r, "a|", "a}", 99); len(l) != 2 || l[0].Key != "a|b" || l[1].Key != "a|b|c" || e != api.OK {
		t.Errorf("Range = %v, %d", l, int(e))
	}
}

// P9.1: what a cursor tells hangs on nothing that other cursors tell.
func TestCursorsAtOnce(t *testing.T) {
	r := filled(t, 400, 90)
	var cursors []*walk.Cursor
	told := make([][]api.Pair, 90)
	for i := range 90 {
		cursors = append(cursors, walk.From(r, key(i)))
	}
	for range 91 {
		for i, c := range cursors {
			p, has, e := c.Next()
			is(t, "Next", e, api.OK)
			if has {
				told[i] = append(told[i], p)
			}
		}
		if _, e := walk.Check(r); e != api.OK {
			t.Errorf("Check: %d", int(e))
		}
	}
	for i, l := range told {
		if !slices.Equal(l, entries(i, 90)) {
			t.Errorf("from %d: %v", i, l)
		}
	}
}

// P9.4: ranges that follow one another, up to keys, and up to numbers of entries.
func TestRangesFollow(t *testing.T) {
	const many = 90
	r := filled(t, 400, many)
	for wide := 1; wide < many+2; wide++ {
		var byKeys, byMost []api.Pair
		for i := 0; i < many; i += wide {
			to := key(i + wide)
			if i+wide >= many {
				to = ""
			}
			l, e := walk.Range(r, key(i), to, many)
			is(t, "Range", e, api.OK)
			byKeys = append(byKeys, l...)
		}
		for from := ""; ; {
			l, e := walk.Range(r, from, "", wide)
			is(t, "Range", e, api.OK)
			if len(l) == 0 {
				break
			}
			byMost = append(byMost, l...)
			from = l[len(l)-1].Key + "\x00"
		}
		if want := entries(0, many); !slices.Equal(byKeys, want) || !slices.Equal(byMost, want) {
			t.Errorf("%d at once: %v, %v", wide, byKeys, byMost)
		}
	}
}

// R3, R4: what is answered is nobody else's, and what is asked changes nothing.
func TestAnswersAreNew(t *testing.T) {
	r := filled(t, 400, 90)
	r.Keep()
	r.Set("x", "not kept")
	pool := r.Store().Pool()
	pages, _ := walk.Check(r)
	for range 2 {
		l, _ := walk.Range(r, "", "", 200)
		if len(l) != 91 || l[3].Val != "3" {
			t.Fatalf("Range = %v", l)
		}
		for i := range l[:cap(l)] {
			l[:cap(l)][i] = api.Pair{Key: "spoilt"}
		}
		p, e := walk.Check(r)
		if !slices.Equal(p, pages) || e != api.OK {
			t.Fatalf("Check = %v, %d", p, int(e))
		}
		clear(p[:cap(p)])
	}
	if now := r.Store().Pool(); now.High != pool.High || !slices.Equal(now.Free, pool.Free) || !slices.Equal(now.Limbo, pool.Limbo) || r.Count() != 91 {
		t.Errorf("Pool %v, want %v; count %d", now, pool, r.Count())
	}
}
