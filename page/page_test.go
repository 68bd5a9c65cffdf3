package page_test

import (
	"math"
	"slices"
	"strconv"
	"strings"
	"testing"

	"cambist/api"
	"cambist/page"
)

// letters are n texts that rise, each of so many bytes.
func letters(n, size int) []string {
	var l []string
	for i := range n {
		l = append(l, strings.Repeat(string([]byte{byte('a' + i)}), size))
	}
	return l
}

// leafOf is a leaf of n pairs, branchOf a branch of n keys, freeOf a list of n pages: each that may be, where n may be.
func leafOf(n int) api.Page {
	p := api.Page{Kind: api.PLeaf}
	for i, key := range letters(n, 3) {
		p.Pairs = append(p.Pairs, api.Pair{Key: key, Val: strings.Repeat("v", i)})
	}
	return p
}

func branchOf(n int) api.Page {
	return api.Page{Kind: api.PBranch, Keys: letters(n, 2), Kids: placesOf(n + 1)}
}

func freeOf(n int) api.Page {
	return api.Page{Kind: api.PFree, Pages: placesOf(n), Next: 9}
}

// placesOf are n places that rise, the first one of all and the last one among them.
func placesOf(n int) []int {
	var l []int
	for i := range n {
		l = append(l, 2+3*i)
	}
	if n > 1 {
		l[n-1] = 4095
	}
	return l
}

func superOf(epoch uint64) api.Page {
	return api.Page{Kind: api.PSuper, Epoch: epoch, Root: 5, Depth: 2, Count: 70000, High: 4096, Next: 300}
}

// emptyOf is a superblock of no tree.
func emptyOf(epoch uint64) api.Page { return api.Page{Kind: api.PSuper, Epoch: epoch, High: 2} }

// fullLeaf is the leaf with the longest text, fullBranch such a branch.
func fullLeaf() api.Page {
	p := api.Page{Kind: api.PLeaf}
	for _, key := range letters(api.MaxLeaf, api.MaxKey) {
		p.Pairs = append(p.Pairs, api.Pair{Key: key, Val: strings.Repeat("\xff", api.MaxVal)})
	}
	return p
}

func fullBranch() api.Page {
	return api.Page{Kind: api.PBranch, Keys: letters(api.MaxKeys, api.MaxKey), Kids: placesOf(api.MaxKeys + 1)}
}

// same tells whether two pages are one; a list without elements may be nil.
func same(p, q api.Page) bool {
	return p.Kind == q.Kind && slices.Equal(p.Pairs, q.Pairs) && slices.Equal(p.Keys, q.Keys) &&
		slices.Equal(p.Kids, q.Kids) && slices.Equal(p.Pages, q.Pages) && p.Next == q.Next && p.Epoch == q.Epoch &&
		p.Root == q.Root && p.Depth == q.Depth && p.Count == q.Count && p.High == q.High
}

// copied is a page whose lists are its own.
func copied(p api.Page) api.Page {
	p.Pairs, p.Keys = slices.Clone(p.Pairs), slices.Clone(p.Keys)
	p.Kids, p.Pages = slices.Clone(p.Kids), slices.Clone(p.Pages)
	return p
}

// sectorOf is a sector in which a page of a Kind may be.
func sectorOf(kind int) int {
	if kind == api.PSuper {
		return 1
	}
	return 7
}

// judge asks whether a page may be: Check, Encode for sectors of all sorts, and, where it may, its bytes, and what is read of them.
func judge(t *testing.T, what string, p api.Page, may bool) {
	t.Helper()
	if !may {
		refused(t, what, p)
		return
	}
	if e := page.Check(p); e != api.OK {
		t.Errorf("%s: Check: told %d", what, int(e))
	}
	sector := sectorOf(p.Kind)
	b, e := page.Encode(sector, p)
	if e != api.OK || !slices.Equal(b, laid(sector, p)) {
		t.Errorf("%s: Encode: %v, told %d", what, b, int(e))
	}
	q, e := page.Decode(sector, b)
	if e != api.OK || !same(q, p) {
		t.Errorf("%s: Decode: %v, told %d; want %v", what, q, int(e), p)
	}
}

// refused holds a page that may not be against what Check and Encode tell of it.
func refused(t *testing.T, what string, p api.Page) {
	t.Helper()
	if e := page.Check(p); e != api.ErrPage {
		t.Errorf("%s: Check: told %d", what, int(e))
	}
	for _, sector := range []int{0, 1, 2, 7, 4095, 4096, -1} {
		if b, e := page.Encode(sector, p); e != api.ErrPage || len(b) != 0 {
			t.Errorf("%s: Encode(%d): %d bytes, told %d", what, sector, len(b), int(e))
		}
	}
}

// noPlaces are numbers that are no places, and not 0: those next to the places, and those that are places modulo 2^16 or 2^32.
func noPlaces() []int {
	return []int{1, -1, -2, -4095, 4096, 4097, 65535, 65536, 65538, 65536 + 4095, 1<<32 + 2, -65536 + 2, math.MinInt, math.MinInt + 2, math.MaxInt}
}

// P5.1, P5.4: the chapter's examples of what may not be.
func TestExamplesRefused(t *testing.T) {
	if e := page.Check(api.Page{Kind: api.PLeaf}); e != api.ErrPage {
		t.Errorf("a leaf without Pairs: told %d", int(e))
	}
	leaf := api.Page{Kind: api.PLeaf, Pairs: []api.Pair{{Key: "a", Val: "xy"}}}
	if b, e := page.Encode(0, leaf); e != api.ErrPage || len(b) != 0 {
		t.Errorf("a leaf in the sector 0: %v, told %d", b, int(e))
	}
}

// P5.1: how many each Kind may have, from the fewest to the most, and others.
func TestCounts(t *testing.T) {
	for n := range 20 {
		judge(t, "leaf of "+strconv.Itoa(n), leafOf(n), n >= 1 && n <= 6)
		judge(t, "branch of "+strconv.Itoa(n), branchOf(n), n >= 1 && n <= 12)
	}
	for n := range 410 {
		judge(t, "list of "+strconv.Itoa(n), freeOf(n), n <= 200)
	}
}

// P5.1: as many as a number of two bytes takes for a few.
func TestCountsBeyondTwoBytes(t *testing.T) {
	leaf, branch := api.Page{Kind: api.PLeaf}, api.Page{Kind: api.PBranch}
	for i := range 1<<16 + 1 {
		key := strconv.Itoa(1<<20 + i)
		leaf.Pairs = append(leaf.Pairs, api.Pair{Key: key})
		branch.Keys, branch.Kids = append(branch.Keys, key), append(branch.Kids, 2)
	}
	branch.Kids = append(branch.Kids, 2)
	refused(t, "leaf", leaf)
	refused(t, "branch", branch)
	refused(t, "list", api.Page{Kind: api.PFree, Pages: make([]int, 1<<16)})
}

// P5.1: of Kids there is just one more than of Keys.
func TestKidsBesideKeys(t *testing.T) {
	for _, keys := range []int{0, 1, 2, 6, 11, 12, 13} {
		for kids := range 20 {
			p := api.Page{Kind: api.PBranch, Keys: letters(keys, 1), Kids: placesOf(kids)}
			judge(t, strconv.Itoa(keys)+" keys, "+strconv.Itoa(kids)+" kids", p, keys >= 1 && keys <= 12 && kids == keys+1)
		}
	}
}

// P5.1: a key, and a value, of each length, at each place of a leaf and of a branch.
func TestLengths(t *testing.T) {
	for _, size := range []int{0, 1, 2, 47, 48, 49, 50, 99, 100, 101, 255, 256, 257, 256 + 48, 1 << 16, 1<<16 + 1, 1 << 20} {
		for at := range 6 {
			what := "a text of " + strconv.Itoa(size) + " at " + strconv.Itoa(at)
			p := leafOf(6)
			p.Pairs[at].Key = strings.Repeat(p.Pairs[at].Key[:1], size)
			judge(t, "leaf, key: "+what, p, size >= 1 && size <= 48)
			p = leafOf(6)
			p.Pairs[at].Val = strings.Repeat("\x00", size)
			judge(t, "leaf, value: "+what, p, size <= 100)
		}
		for at := range 12 {
			p := branchOf(12)
			p.Keys[at] = strings.Repeat(p.Keys[at][:1], size)
			judge(t, "branch, key: "+strconv.Itoa(size)+" at "+strconv.Itoa(at), p, size >= 1 && size <= 48)
		}
	}
	judge(t, "the longest leaf", fullLeaf(), true)
	judge(t, "the longest branch", fullBranch(), true)
	judge(t, "one empty key", api.Page{Kind: api.PLeaf, Pairs: []api.Pair{{}}}, false)
	judge(t, "one empty value", api.Page{Kind: api.PLeaf, Pairs: []api.Pair{{Key: "a"}}}, true)
}

// P5.1: keys rise as Go compares texts, byte by byte, whatever bytes they are.
func TestKeysRise(t *testing.T) {
	for _, c := range []struct {
		keys []string
		may  bool
	}{
		{[]string{"a", "b"}, true},
		{[]string{"b", "a"}, false},
		{[]string{"a", "a"}, false},
		{[]string{"a", "aa"}, true},
		{[]string{"aa", "a"}, false},
		{[]string{"aa", "b"}, true},
		{[]string{"b", "aa"}, false},
		{[]string{"10", "9"}, true},
		{[]string{"9", "10"}, false},
		{[]string{"Z", "a"}, true},
		{[]string{"a", "Z"}, false},
		{[]string{"\x00", "\x00\x00"}, true},
		{[]string{"\x00\x00", "\x00"}, false},
		{[]string{"\x7f", "\x80"}, true},
		{[]string{"\x80", "\x7f"}, false},
		{[]string{"\x80", "\xff"}, true},
		{[]string{"\xff", "\x00"}, false},
		{[]string{"\xc3\xa9", "\xe9"}, true},
		{[]string{"\xff", "\xff"}, false},
		{[]string{"a", "b", "c"}, true},
		{[]string{"a", "c", "b"}, false},
		{[]string{"b", "a", "c"}, false},
		{[]string{"a", "b", "a"}, false},
		{[]string{"a", "a", "b"}, false},
		{[]string{"a", "b", "b"}, false},
	} {
		leaf := api.Page{Kind: api.PLeaf}
		for _, key := range c.keys {
			leaf.Pairs = append(leaf.Pairs, api.Pair{Key: key, Val: "v"})
		}
		what := strings.Join(c.keys, " ")
		judge(t, "leaf: "+strconv.Quote(what), leaf, c.may)
		judge(t, "branch: "+strconv.Quote(what), api.Page{Kind: api.PBranch, Keys: c.keys, Kids: placesOf(len(c.keys) + 1)}, c.may)
	}
}

// P5.1: two keys, or two pages of a list, in turned order, or the same, at each place.
func TestOrderAtEachPlace(t *testing.T) {
	for at := 1; at < 12; at++ {
		what := " at " + strconv.Itoa(at)
		p := branchOf(12)
		p.Keys[at-1], p.Keys[at] = p.Keys[at], p.Keys[at-1]
		judge(t, "branch, turned"+what, p, false)
		p = branchOf(12)
		p.Keys[at] = p.Keys[at-1]
		judge(t, "branch, twice"+what, p, false)
	}
	for at := 1; at < 6; at++ {
		what := " at " + strconv.Itoa(at)
		p := leafOf(6)
		p.Pairs[at-1], p.Pairs[at] = p.Pairs[at], p.Pairs[at-1]
		judge(t, "leaf, turned"+what, p, false)
		p = leafOf(6)
		p.Pairs[at].Key = p.Pairs[at-1].Key
		judge(t, "leaf, twice"+what, p, false)
	}
	for at := 1; at < 200; at++ {
		what := " at " + strconv.Itoa(at)
		p := freeOf(200)
		p.Pages[at-1], p.Pages[at] = p.Pages[at], p.Pages[at-1]
		judge(t, "list, turned"+what, p, false)
		p = freeOf(200)
		p.Pages[at] = p.Pages[at-1]
		judge(t, "list, twice"+what, p, false)
	}
}

// P5.1: a leaf's values, and a branch's Kids, need no order.
func TestWhatNeedsNoOrder(t *testing.T) {
	p := branchOf(3)
	for _, kids := range [][]int{{9, 9, 9, 9}, {9, 8, 7, 2}, {4095, 2, 4095, 2}} {
		p.Kids = kids
		judge(t, "kids in no order", p, true)
	}
	p = leafOf(3)
	for i, val := range []string{"z", "b", "b"} {
		p.Pairs[i].Val = val
	}
	judge(t, "values in no order", p, true)
}

// P5.1: places from the first one to the last one, and others, wherever a page has one.
func TestPlaces(t *testing.T) {
	for _, n := range []int{2, 3, 255, 256, 257, 4094, 4095} {
		places(t, n, true)
	}
	for _, n := range noPlaces() {
		places(t, n, false)
	}
	p := branchOf(2)
	for at := range 3 {
		p.Kids = placesOf(3)
		p.Kids[at] = 0
		judge(t, "no kid at "+strconv.Itoa(at), p, false)
	}
	judge(t, "a list of 0", api.Page{Kind: api.PFree, Pages: []int{0}}, false)
	judge(t, "a list of 0 and 2", api.Page{Kind: api.PFree, Pages: []int{0, 2}}, false)
	judge(t, "no list behind a list", api.Page{Kind: api.PFree, Pages: []int{2}}, true)
	judge(t, "a list that leads to one of its pages", api.Page{Kind: api.PFree, Pages: []int{2, 7, 9}, Next: 7}, true)
	judge(t, "pages 4095 and 4096", api.Page{Kind: api.PFree, Pages: []int{4095, 4096}}, false)
	judge(t, "pages 1 and 2", api.Page{Kind: api.PFree, Pages: []int{1, 2}}, false)
}

// places lays a number wherever a page has a place.
func places(t *testing.T, n int, may bool) {
	t.Helper()
	what := strconv.Itoa(n)
	for at := range 13 {
		p := branchOf(12)
		p.Kids[at] = n
		judge(t, "kid "+strconv.Itoa(at)+" is "+what, p, may)
	}
	judge(t, "a list of "+what, api.Page{Kind: api.PFree, Pages: []int{n}}, may)
	judge(t, "a list that leads to "+what, api.Page{Kind: api.PFree, Next: n}, may)
	judge(t, "a list of 2, and leads to "+what, api.Page{Kind: api.PFree, Pages: []int{2}, Next: n}, may)
	p := superOf(1)
	p.Root = n
	judge(t, "the root is "+what, p, may)
	p = superOf(1)
	p.Next = n
	judge(t, "a superblock leads to "+what, p, may)
	p = emptyOf(1)
	p.Next = n
	judge(t, "an empty superblock leads to "+what, p, may)
}

// P5.1: a superblock's Root, Depth and Count are 0 together, or none of them is.
func TestSuperNoneTogether(t *testing.T) {
	for _, root := range []int{0, 2, 5, 4095} {
		for _, depth := range []int{0, 1, 2, 19, 20, 21, 22, -1, -20, 65536, 65536 + 1, 1 << 32, math.MinInt, math.MaxInt} {
			for _, count := range []int{0, 1, 2, 65536, 1<<31 - 2, 1<<31 - 1, 1 << 31, 1<<31 + 1, 1 << 32, 1<<32 + 1, -1, -1 << 31, math.MinInt, math.MaxInt} {
				p := api.Page{Kind: api.PSuper, Epoch: 3, Root: root, Depth: depth, Count: count, High: 4096}
				none := root == 0 && depth == 0 && count == 0
				some := root != 0 && depth >= 1 && depth <= 20 && count >= 1 && count <= 1<<31-1
				judge(t, "Root "+strconv.Itoa(root)+", Depth "+strconv.Itoa(depth)+", Count "+strconv.Itoa(count), p, none || some)
			}
		}
	}
}

// P5.1: a superblock's High, with a tree and without one; what it has need not lie below it.
func TestSuperHigh(t *testing.T) {
	for _, p := range []api.Page{superOf(1), emptyOf(1)} {
		for _, high := range []int{2, 3, 6, 255, 256, 4095, 4096} {
			p.High = high
			judge(t, "High "+strconv.Itoa(high), p, true)
		}
		for _, high := range []int{0, 1, -1, -2, 4097, 65535, 65536, 65538, 1<<32 + 2, math.MinInt, math.MaxInt} {
			p.High = high
			judge(t, "High "+strconv.Itoa(high), p, false)
		}
	}
}

// P5.1: a superblock's Epoch is any.
func TestSuperEpoch(t *testing.T) {
	for i := range 64 {
		for _, epoch := range []uint64{1 << i, 1<<i - 1, 1<<i + 1, ^(uint64(1) << i)} {
			judge(t, "Epoch "+strconv.FormatUint(epoch, 10), superOf(epoch), true)
			judge(t, "empty, Epoch "+strconv.FormatUint(epoch, 10), emptyOf(epoch), true)
		}
	}
	judge(t, "the last Epoch", superOf(math.MaxUint64), true)
}

// P5.1: Kinds that there are not, whatever else the page has.
func TestKindsThatAreNot(t *testing.T) {
	for _, kind := range []int{0, -1, -4, 5, 6, 97, 255, 256, 257, 258, 259, 260, 1<<32 + 1, math.MinInt, math.MinInt + 1, math.MaxInt} {
		for _, p := range []api.Page{{}, leafOf(1), branchOf(1), freeOf(0), freeOf(1), superOf(1), emptyOf(0)} {
			p.Kind = kind
			judge(t, "Kind "+strconv.Itoa(kind), p, false)
		}
	}
}

// P5.1: a page of another Kind's parts.
func TestKindsOfOthersParts(t *testing.T) {
	for kind := 1; kind <= 4; kind++ {
		for _, p := range []api.Page{leafOf(1), branchOf(1), freeOf(1), superOf(1), emptyOf(1)} {
			may := p.Kind == kind
			p.Kind = kind
			judge(t, "Kind "+strconv.Itoa(kind), p, may)
		}
	}
}

// part is something that a page may have: how it is laid in, and the Kinds that have it.
type part struct {
	name  string
	lay   func(p *api.Page)
	kinds []int
}

func parts() []part {
	return []part{
		{"Pairs", func(p *api.Page) { p.Pairs = []api.Pair{{Key: "a"}} }, []int{api.PLeaf}},
		{"an empty pair", func(p *api.Page) { p.Pairs = []api.Pair{{}} }, nil},
		{"Keys", func(p *api.Page) { p.Keys = []string{"a"} }, nil}, // a branch's Kids are one more than these
		{"an empty key", func(p *api.Page) { p.Keys = []string{""} }, nil},
		{"a kid", func(p *api.Page) { p.Kids = []int{2} }, nil},
		{"a kid 0", func(p *api.Page) { p.Kids = []int{0} }, nil},
		{"Keys and Kids", func(p *api.Page) { p.Keys, p.Kids = []string{"a"}, []int{2, 3} }, []int{api.PBranch}},
		{"Pages", func(p *api.Page) { p.Pages = []int{2} }, []int{api.PFree}},
		{"a page 0", func(p *api.Page) { p.Pages = []int{0} }, nil},
		{"Next", func(p *api.Page) { p.Next = 2 }, []int{api.PFree, api.PSuper}},
		{"Next -1", func(p *api.Page) { p.Next = -1 }, nil},
		{"Epoch", func(p *api.Page) { p.Epoch = 1 }, []int{api.PSuper}},
		{"the last Epoch", func(p *api.Page) { p.Epoch = 1 << 63 }, []int{api.PSuper}},
		{"Root", func(p *api.Page) { p.Root = 2 }, []int{api.PSuper}},
		{"Depth", func(p *api.Page) { p.Depth = 1 }, []int{api.PSuper}},
		{"Depth -1", func(p *api.Page) { p.Depth = -1 }, nil},
		{"Count", func(p *api.Page) { p.Count = 1 }, []int{api.PSuper}},
		{"Count -1", func(p *api.Page) { p.Count = -1 }, nil},
		{"High", func(p *api.Page) { p.High = 2 }, []int{api.PSuper}},
	}
}

// P5.1: what a Kind has not is 0, or none.
func TestPartsThatAKindHasNot(t *testing.T) {
	for _, base := range []api.Page{leafOf(2), branchOf(2), freeOf(0), freeOf(2), superOf(1)} {
		for _, c := range parts() {
			p := copied(base)
			c.lay(&p)
			judge(t, "Kind "+strconv.Itoa(base.Kind)+" with "+c.name, p, slices.Contains(c.kinds, base.Kind))
		}
	}
}

// P5.1: a list without elements may be nil or not.
func TestListsWithoutElements(t *testing.T) {
	for _, p := range []api.Page{leafOf(2), branchOf(2), freeOf(0), freeOf(2), superOf(1), emptyOf(1)} {
		if p.Kind != api.PLeaf {
			p.Pairs = make([]api.Pair, 0, 3)
		}
		if p.Kind != api.PBranch {
			p.Keys, p.Kids = []string{}, make([]int, 0, 3)
		}
		if p.Kind != api.PFree || len(p.Pages) == 0 {
			p.Pages = []int{}
		}
		judge(t, "lists without elements", p, true)
	}
}

// P5.1: pages in no plain order, most of them near to what may be, against the promise's words.
func TestCheckInNoPlainOrder(t *testing.T) {
	x := mixer(1)
	met := map[bool]int{}
	for range 20000 {
		p := x.page()
		may := words(p)
		met[may]++
		judge(t, "in no plain order", p, may)
	}
	if met[true] < 1000 || met[false] < 1000 {
		t.Errorf("too few of a sort: %v", met)
	}
}
