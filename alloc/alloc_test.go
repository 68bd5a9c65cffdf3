package alloc_test

import (
	"math"
	"slices"
	"strconv"
	"testing"

	"cambist/alloc"
	"cambist/api"
)

// P6.2, P6.3: the chapter's examples.
func TestExamples(t *testing.T) {
	is(t, "Take(High 2, 4)", take(t, api.Pool{High: 2}, 4), answer{pool: api.Pool{High: 3}, page: 2})
	is(t, "Take(High 4, 4)", take(t, api.Pool{High: 4}, 4), answer{e: api.ErrFull})
	given := give(t, api.Pool{High: 9, Free: []int{4}}, 3)
	is(t, "Give(High 9, Free 4; 3)", given, answer{pool: api.Pool{High: 9, Free: []int{4}, Limbo: []int{3}}})
	is(t, "Take(that)", take(t, given.pool, 9), answer{pool: api.Pool{High: 9, Limbo: []int{3}}, page: 4})
	is(t, "Turn(Free 4, Limbo 3)", turn(t, api.Pool{Free: []int{4}, Limbo: []int{3}}), answer{pool: api.Pool{Free: []int{3, 4}}})
}

// The errors' numbers that the chapter names.
func TestErrorNumbers(t *testing.T) {
	if api.OK != 0 || api.ErrArg != 1 || api.ErrFull != 60 || api.ErrPool != 61 {
		t.Errorf("%d, %d, %d, %d", int(api.OK), int(api.ErrArg), int(api.ErrFull), int(api.ErrPool))
	}
}

// P6.1: High, from below all that may be up to beyond.
func TestCheckHigh(t *testing.T) {
	for _, c := range []struct {
		high, most int
		e          api.Errno
	}{
		{2, 2, api.OK}, {2, 3, api.OK}, {3, 3, api.OK}, {49, 50, api.OK}, {50, 50, api.OK},
		{4096, 4096, api.OK}, {4097, 4097, api.OK}, {5000, 1 << 40, api.OK}, {math.MaxInt, math.MaxInt, api.OK}, {2, math.MaxInt, api.OK},
		{1, 50, api.ErrPool}, {0, 50, api.ErrPool}, {-1, 50, api.ErrPool}, {math.MinInt, 50, api.ErrPool}, {math.MinInt, math.MaxInt, api.ErrPool},
		{51, 50, api.ErrPool}, {4097, 4096, api.ErrPool}, {math.MaxInt, 50, api.ErrPool}, {math.MaxInt, math.MaxInt - 1, api.ErrPool},
		{2, 1, api.ErrPool}, {1, 1, api.ErrPool}, {0, 0, api.ErrPool}, {2, 0, api.ErrPool}, {2, -1, api.ErrPool}, {1, 0, api.ErrPool}, {2, math.MinInt, api.ErrPool}, {math.MinInt, math.MinInt, api.ErrPool},
	} {
		is(t, "Check(High "+strconv.Itoa(c.high)+", "+strconv.Itoa(c.most)+")", check(t, api.Pool{High: c.high}, c.most), answer{e: c.e})
	}
}

// P6.1: what Free may hold, and Limbo, where the other one is empty.
func TestCheckOneList(t *testing.T) {
	for _, c := range []struct {
		l []int
		e api.Errno
	}{
		{nil, api.OK}, {[]int{2}, api.OK}, {[]int{9}, api.OK}, {[]int{2, 9}, api.OK}, {[]int{2, 3, 4, 5, 6, 7, 8, 9}, api.OK}, {[]int{3, 5, 8}, api.OK},
		{[]int{3, 2}, api.ErrPool}, {[]int{9, 2}, api.ErrPool}, {[]int{2, 4, 3}, api.ErrPool}, {[]int{3, 2, 4}, api.ErrPool}, {[]int{4, 5, 2, 3}, api.ErrPool}, {[]int{2, 5, 4, 9}, api.ErrPool},
		{[]int{2, 2}, api.ErrPool}, {[]int{9, 9}, api.ErrPool}, {[]int{2, 5, 5, 9}, api.ErrPool}, {[]int{5, 6, 5}, api.ErrPool},
		{[]int{1}, api.ErrPool}, {[]int{0}, api.ErrPool}, {[]int{-1}, api.ErrPool}, {[]int{math.MinInt}, api.ErrPool}, {[]int{1, 2}, api.ErrPool}, {[]int{0, 5}, api.ErrPool}, {[]int{-2, 5, 9}, api.ErrPool}, {[]int{math.MinInt, 2}, api.ErrPool},
		{[]int{10}, api.ErrPool}, {[]int{11}, api.ErrPool}, {[]int{math.MaxInt}, api.ErrPool}, {[]int{9, 10}, api.ErrPool}, {[]int{2, 11}, api.ErrPool}, {[]int{2, 9, math.MaxInt}, api.ErrPool},
		{[]int{1, 10}, api.ErrPool}, {run(1, 10), api.ErrPool}, {run(1, 9), api.ErrPool}, {run(2, 10), api.ErrPool},
	} {
		what := strconv.Itoa(len(c.l)) + " pages"
		is(t, "Check, Free of "+what, check(t, api.Pool{High: 10, Free: c.l}, 12), answer{e: c.e})
		is(t, "Check, Limbo of "+what, check(t, api.Pool{High: 10, Limbo: c.l}, 12), answer{e: c.e})
	}
}

// P6.1: both lists side by side: each page is in one of them alone.
func TestCheckBothLists(t *testing.T) {
	for _, c := range []struct {
		free, limbo []int
		e           api.Errno
	}{
		{[]int{2, 3}, []int{4, 5}, api.OK}, {[]int{4, 5}, []int{2, 3}, api.OK}, {[]int{2, 4, 9}, []int{3, 5, 8}, api.OK}, {[]int{5}, []int{2, 9}, api.OK}, {run(2, 8), []int{9}, api.OK}, {[]int{9}, run(2, 8), api.OK},
		{[]int{2}, []int{2}, api.ErrPool}, {[]int{9}, []int{9}, api.ErrPool}, {[]int{2, 5, 9}, []int{3, 5}, api.ErrPool}, {[]int{2, 5}, []int{5, 9}, api.ErrPool}, {[]int{5, 9}, []int{2, 5}, api.ErrPool}, {run(2, 9), run(2, 9), api.ErrPool},
		{[]int{2, 5}, []int{7, 4}, api.ErrPool}, {[]int{5, 2}, []int{4, 7}, api.ErrPool}, {[]int{9, 4}, []int{5}, api.ErrPool}, {[]int{5}, []int{9, 4}, api.ErrPool},
		{[]int{2, 5}, []int{4, 4}, api.ErrPool}, {[]int{4, 4}, []int{2, 5}, api.ErrPool}, {[]int{2, 5}, []int{9, 9}, api.ErrPool}, {[]int{9, 9}, []int{5}, api.ErrPool},
		{[]int{1}, []int{2}, api.ErrPool}, {[]int{2}, []int{1}, api.ErrPool}, {[]int{10}, []int{9}, api.ErrPool}, {[]int{9}, []int{10}, api.ErrPool}, {[]int{9}, []int{11}, api.ErrPool}, {[]int{11}, []int{9}, api.ErrPool},
	} {
		p := api.Pool{High: 10, Free: c.free, Limbo: c.limbo}
		is(t, "Check", check(t, p, 10), answer{e: c.e})
		p.High = 1
		is(t, "Check of High 1", check(t, p, 10), answer{e: api.ErrPool})
	}
}

// P6.2: a page is taken where none is free: High, as long as it is below most.
func TestTakeOfHigh(t *testing.T) {
	limbo := []int{3, 5}
	for _, c := range []struct {
		high, most int
		e          api.Errno
	}{
		{2, 3, api.OK}, {9, 50, api.OK}, {48, 50, api.OK}, {49, 50, api.OK}, {4095, 4096, api.OK}, {4096, 4097, api.OK}, {math.MaxInt - 1, math.MaxInt, api.OK},
		{50, 50, api.ErrFull}, {51, 50, api.ErrFull}, {4096, 4096, api.ErrFull}, {2, 2, api.ErrFull}, {2, 1, api.ErrFull}, {2, 0, api.ErrFull}, {2, -1, api.ErrFull}, {2, math.MinInt, api.ErrFull}, {math.MaxInt, 50, api.ErrFull}, {math.MaxInt, math.MaxInt, api.ErrFull},
		{1, 50, api.OK}, {0, 50, api.OK}, {-7, 50, api.OK}, {math.MinInt, math.MaxInt, api.OK}, {math.MinInt, math.MinInt, api.ErrFull}, {-7, -7, api.ErrFull}, {-7, -6, api.OK},
	} {
		want := answer{pool: api.Pool{High: c.high + 1, Limbo: limbo}, page: c.high}
		if c.e != api.OK {
			want = answer{e: c.e}
		}
		p := api.Pool{High: c.high, Limbo: limbo}
		is(t, "Take(High "+strconv.Itoa(c.high)+", "+strconv.Itoa(c.most)+")", take(t, p, c.most), want)
	}
}

// P6.2: a page is taken of those that are free, the first one: most isn't asked then.
func TestTakeOfFree(t *testing.T) {
	for _, most := range []int{9, 8, 10, 2, 0, -1, math.MinInt, math.MaxInt} {
		for _, free := range [][]int{{4}, {8}, {2, 3}, {4, 7}, {2, 5, 8}, run(2, 8), {7, 4}, {4, 4}, {-3, 99}} {
			for _, limbo := range [][]int{nil, {6}, {2, 3}, {4}, {7, 5}} {
				p := api.Pool{High: 9, Free: free, Limbo: limbo}
				want := answer{pool: api.Pool{High: 9, Free: free[1:], Limbo: limbo}, page: free[0]}
				is(t, "Take", take(t, p, most), want)
			}
		}
	}
}

// P6.2: pages are taken one by one, the free ones first, till there is none.
func TestTakeAll(t *testing.T) {
	p := api.Pool{High: 6, Free: []int{2, 5}, Limbo: []int{4}}
	for _, page := range []int{2, 5, 6, 7, 8} {
		got := take(t, p, 9)
		if got.page != page || got.e != api.OK {
			t.Errorf("%d, told %d; want %d", got.page, int(got.e), page)
		}
		p = got.pool
	}
	is(t, "Take of none", take(t, p, 9), answer{e: api.ErrFull})
	is(t, "Take behind", take(t, turn(t, p).pool, 9), answer{pool: api.Pool{High: 9}, page: 4})
}

// P6.3: pages that can't come: they are none of the pool's, or are there.
func TestGiveAndBackRefuse(t *testing.T) {
	p := api.Pool{High: 9, Free: []int{4, 7}, Limbo: []int{3, 5, 8}}
	for _, page := range []int{3, 4, 5, 7, 8, 1, 0, -1, -2, math.MinInt, 9, 10, 4096, math.MaxInt} {
		is(t, "Give("+strconv.Itoa(page)+")", give(t, p, page), answer{e: api.ErrArg})
		is(t, "Back("+strconv.Itoa(page)+")", back(t, p, page), answer{e: api.ErrArg})
	}
	for _, high := range []int{2, 1, 0, -1, math.MinInt} {
		for _, page := range []int{high - 1, high, high + 1, 2, 1, 0, 3} {
			is(t, "Give, High "+strconv.Itoa(high), give(t, api.Pool{High: high}, page), answer{e: api.ErrArg})
			is(t, "Back, High "+strconv.Itoa(high), back(t, api.Pool{High: high}, page), answer{e: api.ErrArg})
		}
	}
}

// P6.3: a page is laid in first, in the middle, and last, of a list that rises, and of one that does not; the other list stays.
func TestGiveAndBackLayIn(t *testing.T) {
	other := []int{97, 98}
	for _, c := range []struct {
		l    []int
		page int
		want []int
	}{
		{nil, 2, []int{2}}, {nil, 50, []int{50}}, {nil, 99, []int{99}},
		{[]int{4}, 2, []int{2, 4}}, {[]int{4}, 3, []int{3, 4}}, {[]int{4}, 5, []int{4, 5}}, {[]int{4}, 99, []int{4, 99}},
		{[]int{4, 7, 20}, 2, []int{2, 4, 7, 20}}, {[]int{4, 7, 20}, 3, []int{3, 4, 7, 20}},
		{[]int{4, 7, 20}, 5, []int{4, 5, 7, 20}}, {[]int{4, 7, 20}, 6, []int{4, 6, 7, 20}}, {[]int{4, 7, 20}, 8, []int{4, 7, 8, 20}}, {[]int{4, 7, 20}, 19, []int{4, 7, 19, 20}},
		{[]int{4, 7, 20}, 21, []int{4, 7, 20, 21}}, {[]int{4, 7, 20}, 99, []int{4, 7, 20, 99}},
		{[]int{20, 7, 4}, 5, []int{5, 20, 7, 4}}, {[]int{4, 20, 7}, 8, []int{4, 8, 20, 7}}, {[]int{4, 2, 20, 7}, 3, []int{3, 4, 2, 20, 7}}, {[]int{20, 7, 4}, 21, []int{20, 7, 4, 21}}, {[]int{4, 4, 9, 9, 4}, 5, []int{4, 4, 5, 9, 9, 4}}, {[]int{-5, 500, 3}, 2, []int{-5, 2, 500, 3}},
	} {
		is(t, "Give("+strconv.Itoa(c.page)+")", give(t, api.Pool{High: 100, Free: other, Limbo: c.l}, c.page), answer{pool: api.Pool{High: 100, Free: other, Limbo: c.want}})
		is(t, "Back("+strconv.Itoa(c.page)+")", back(t, api.Pool{High: 100, Free: c.l, Limbo: other}, c.page), answer{pool: api.Pool{High: 100, Free: c.want, Limbo: other}})
	}
}

// P6.3: the last page below High may come, High itself may not.
func TestGiveAndBackBelowHigh(t *testing.T) {
	for _, high := range []int{3, 9, 4096, 5000, math.MaxInt} {
		p := api.Pool{High: high}
		is(t, "Give(High - 1)", give(t, p, high-1), answer{pool: api.Pool{High: high, Limbo: []int{high - 1}}})
		is(t, "Back(High - 1)", back(t, p, high-1), answer{pool: api.Pool{High: high, Free: []int{high - 1}}})
		is(t, "Give(2)", give(t, p, 2), answer{pool: api.Pool{High: high, Limbo: []int{2}}})
		is(t, "Back(2)", back(t, p, 2), answer{pool: api.Pool{High: high, Free: []int{2}}})
		is(t, "Give(High)", give(t, p, high), answer{e: api.ErrArg})
		is(t, "Back(High)", back(t, p, high), answer{e: api.ErrArg})
	}
}

// P6.3: Limbo is laid into Free, page by page, in all ways in which they may mix.
func TestTurn(t *testing.T) {
	for _, c := range []struct{ free, limbo, want []int }{
		{nil, nil, nil},
		{[]int{2, 5, 9}, nil, []int{2, 5, 9}},
		{nil, []int{2, 5, 9}, []int{2, 5, 9}},
		{[]int{4}, []int{3}, []int{3, 4}}, {[]int{3}, []int{4}, []int{3, 4}},
		{[]int{2, 3}, []int{8, 9}, []int{2, 3, 8, 9}}, {[]int{8, 9}, []int{2, 3}, []int{2, 3, 8, 9}},
		{[]int{2, 4, 6}, []int{3, 5, 7}, []int{2, 3, 4, 5, 6, 7}}, {[]int{3, 5, 7}, []int{2, 4, 6}, []int{2, 3, 4, 5, 6, 7}},
		{[]int{2, 9}, []int{4, 5, 6}, []int{2, 4, 5, 6, 9}}, {[]int{4, 5, 6}, []int{2, 9}, []int{2, 4, 5, 6, 9}},
		{nil, []int{9, 2, 5}, []int{2, 5, 9}}, {[]int{9, 2, 5}, nil, []int{9, 2, 5}},
		{[]int{9, 2, 5}, []int{7, 3, 10}, []int{3, 7, 9, 2, 5, 10}}, {[]int{3, 2}, []int{3, 2, 3}, []int{2, 3, 3, 3, 2}}, {[]int{2, 2}, []int{2}, []int{2, 2, 2}},
		{[]int{-1, 50}, []int{math.MinInt, math.MaxInt, 0}, []int{math.MinInt, -1, 0, 50, math.MaxInt}},
	} {
		for _, high := range []int{12, 2, 0, -1, math.MinInt, math.MaxInt} {
			is(t, "Turn", turn(t, api.Pool{High: high, Free: c.free, Limbo: c.limbo}), answer{pool: api.Pool{High: high, Free: c.want}})
		}
	}
}

// shared are a list's pages, dealt out to Free and to Limbo in turns.
func shared(high int, l []int) api.Pool {
	p := api.Pool{High: high}
	for i, page := range l {
		if i%3 == 0 {
			p.Limbo = append(p.Limbo, page)
		} else {
			p.Free = append(p.Free, page)
		}
	}
	return p
}

// P6.4: how many lists there are, how long each is, and that Of brings them back; wherever the pages are, free or in limbo.
func TestLists(t *testing.T) {
	for _, c := range []struct{ pages, lists, last int }{
		{0, 0, 0}, {1, 1, 1}, {2, 1, 2}, {199, 1, 199}, {200, 1, 200}, {201, 2, 1}, {202, 2, 2}, {399, 2, 199}, {400, 2, 200}, {401, 3, 1}, {600, 3, 200}, {601, 4, 1}, {4094, 21, 94},
	} {
		l := run(2, c.pages+1)
		for _, p := range []api.Pool{{High: 4096, Free: l}, {High: 4096, Limbo: l}, shared(4096, l)} {
			got := lists(t, p)
			if len(got.lists) != c.lists || c.lists > 0 && len(got.lists[c.lists-1]) != c.last {
				t.Errorf("%d pages: %d lists", c.pages, len(got.lists))
				continue
			}
			for i := 0; i < c.lists-1; i++ {
				if len(got.lists[i]) != api.MaxPages {
					t.Errorf("%d pages: list %d has %d", c.pages, i, len(got.lists[i]))
				}
			}
			if all := slices.Concat(got.lists...); !slices.Equal(all, l) {
				t.Errorf("%d pages: %v", c.pages, all)
			}
			is(t, "Of(Lists)", of(t, p.High, got.lists), turn(t, p))
		}
	}
}

// P6.4: of a pool that may not be there are lists too, in the order that Turn leaves.
func TestListsOfAnyPool(t *testing.T) {
	for _, high := range []int{0, 1, -1, math.MinInt, math.MaxInt} {
		is(t, "Lists", lists(t, api.Pool{High: high, Free: []int{9, 2}, Limbo: []int{5, 3, 5}}), answer{lists: [][]int{{3, 5, 5, 9, 2}}})
		is(t, "Lists of none", lists(t, api.Pool{High: high}), answer{})
	}
	down := run(2, 402)
	slices.Reverse(down)
	is(t, "Lists", lists(t, api.Pool{Free: down}), answer{lists: [][]int{down[:200], down[200:400], down[400:]}})
}

// P6.4: the pool of lists of all lengths, that rise from one to the next, or do not.
func TestOf(t *testing.T) {
	for _, c := range []struct {
		lists [][]int
		free  []int
		e     api.Errno
	}{
		{nil, nil, api.OK}, {[][]int{}, nil, api.OK}, {[][]int{nil}, nil, api.OK}, {[][]int{{}, nil, {}}, nil, api.OK},
		{[][]int{{2}}, []int{2}, api.OK}, {[][]int{{8}}, []int{8}, api.OK}, {[][]int{{2, 5, 8}}, []int{2, 5, 8}, api.OK}, {[][]int{{2}, {5}, {8}}, []int{2, 5, 8}, api.OK}, {[][]int{{}, {2, 3}, nil, {5}, {}}, []int{2, 3, 5}, api.OK}, {[][]int{{2, 3, 4}, {5, 6}, {7, 8}}, run(2, 8), api.OK},
		{[][]int{{5, 4}}, nil, api.ErrPool}, {[][]int{{2, 3}, {6, 5}}, nil, api.ErrPool}, {[][]int{{3, 2}, {5, 6}}, nil, api.ErrPool}, {[][]int{{4, 4}}, nil, api.ErrPool},
		{[][]int{{5}, {4}}, nil, api.ErrPool}, {[][]int{{5}, {5}}, nil, api.ErrPool}, {[][]int{{2, 6}, {5, 8}}, nil, api.ErrPool}, {[][]int{{2, 6}, {}, {6, 8}}, nil, api.ErrPool}, {[][]int{{5, 6}, {2, 3}}, nil, api.ErrPool},
		{[][]int{{1}}, nil, api.ErrPool}, {[][]int{{0, 3}}, nil, api.ErrPool}, {[][]int{{-1}, {3}}, nil, api.ErrPool}, {[][]int{{9}}, nil, api.ErrPool}, {[][]int{{2}, {9}}, nil, api.ErrPool}, {[][]int{{8, 10}}, nil, api.ErrPool}, {[][]int{{math.MinInt}, {math.MaxInt}}, nil, api.ErrPool},
	} {
		want := answer{pool: api.Pool{High: 9, Free: c.free}}
		if c.e != api.OK {
			want = answer{e: c.e}
		}
		is(t, "Of", of(t, 9, c.lists), want)
		for _, high := range []int{1, 0, -1, math.MinInt, 4097, math.MaxInt} {
			is(t, "Of, High "+strconv.Itoa(high), of(t, high, c.lists), answer{e: api.ErrPool})
		}
	}
}

// P6.4: the least High that may be, and the greatest one, whatever lists' lengths are.
func TestOfHigh(t *testing.T) {
	is(t, "Of(2)", of(t, 2, nil), answer{pool: api.Pool{High: 2}})
	is(t, "Of(2, 2)", of(t, 2, [][]int{{2}}), answer{e: api.ErrPool})
	is(t, "Of(3, 2)", of(t, 3, [][]int{{2}}), answer{pool: api.Pool{High: 3, Free: []int{2}}})
	is(t, "Of(4095)", of(t, 4095, [][]int{{4094}}), answer{pool: api.Pool{High: 4095, Free: []int{4094}}})
	is(t, "Of(4096)", of(t, 4096, [][]int{{2}, {4095}}), answer{pool: api.Pool{High: 4096, Free: []int{2, 4095}}})
	is(t, "Of(4096, 4096)", of(t, 4096, [][]int{{4096}}), answer{e: api.ErrPool})
	is(t, "Of(4097)", of(t, 4097, [][]int{{2}}), answer{e: api.ErrPool})
	all := run(2, 4095)
	is(t, "Of all in one", of(t, 4096, [][]int{all}), answer{pool: api.Pool{High: 4096, Free: all}})
	is(t, "Of all and one", of(t, 4096, [][]int{all, {4096}}), answer{e: api.ErrPool})
}

// R1: long lists end too, in whatever order they are.
func TestLongLists(t *testing.T) {
	const many = 300000
	up, down := run(2, many), run(many+1, 2*many)
	slices.Reverse(down)
	p := api.Pool{High: 2*many + 1, Free: up, Limbo: down}
	all := run(2, 2*many)
	if q := alloc.Turn(p); !slices.Equal(q.Free, all) || len(q.Limbo) != 0 {
		t.Error("Turn, behind")
	}
	if e := alloc.Check(p, math.MaxInt); e != api.ErrPool {
		t.Errorf("Check: told %d", int(e))
	}
	p = api.Pool{High: 2*many + 1, Free: run(many+1, 2*many), Limbo: up}
	if q := alloc.Turn(p); !slices.Equal(q.Free, all) || len(q.Limbo) != 0 {
		t.Error("Turn, ahead")
	}
	if e := alloc.Check(p, math.MaxInt); e != api.OK {
		t.Errorf("Check: told %d", int(e))
	}
	p = shared(2*many+1, all)
	if q := alloc.Turn(p); !slices.Equal(q.Free, all) || len(q.Limbo) != 0 {
		t.Error("Turn, mixed")
	}
	if l := alloc.Lists(p); !slices.Equal(slices.Concat(l...), all) {
		t.Error("Lists")
	}
	if _, e := alloc.Of(4096, [][]int{up, down, up}); e != api.ErrPool {
		t.Errorf("Of: told %d", int(e))
	}
}
