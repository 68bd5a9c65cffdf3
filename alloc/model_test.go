package alloc_test

import (
	"slices"
	"strconv"
	"testing"

	"cambist/alloc"
	"cambist/api"
)

// The model: pools as the promises' words say them, page by page.

// lay lays a page into a list: ahead of the first page that is not less than it.
func lay(l []int, page int) []int {
	for i, n := range l {
		if n >= page {
			return slices.Concat(l[:i], []int{page}, l[i:])
		}
	}
	return slices.Concat(l, []int{page})
}

func times(l []int, page int) int {
	n := 0
	for _, one := range l {
		if one == page {
			n++
		}
	}
	return n
}

func modelCheck(p api.Pool, most int) answer {
	may := p.High >= 2 && p.High <= most
	for _, l := range [][]int{p.Free, p.Limbo} {
		for i, page := range l {
			may = may && page >= 2 && page < p.High && times(p.Free, page)+times(p.Limbo, page) == 1 && (i == 0 || l[i-1] < page)
		}
	}
	if !may {
		return answer{e: api.ErrPool}
	}
	return answer{}
}

func modelTake(p api.Pool, most int) answer {
	switch {
	case len(p.Free) > 0:
		return answer{pool: api.Pool{High: p.High, Free: p.Free[1:], Limbo: p.Limbo}, page: p.Free[0]}
	case p.High < most:
		return answer{pool: api.Pool{High: p.High + 1, Limbo: p.Limbo}, page: p.High}
	}
	return answer{e: api.ErrFull}
}

func modelMay(p api.Pool, page int) bool {
	return page >= 2 && page < p.High && times(p.Free, page) == 0 && times(p.Limbo, page) == 0
}

func modelGive(p api.Pool, page int) answer {
	if !modelMay(p, page) {
		return answer{e: api.ErrArg}
	}
	return answer{pool: api.Pool{High: p.High, Free: p.Free, Limbo: lay(p.Limbo, page)}}
}

func modelBack(p api.Pool, page int) answer {
	if !modelMay(p, page) {
		return answer{e: api.ErrArg}
	}
	return answer{pool: api.Pool{High: p.High, Free: lay(p.Free, page), Limbo: p.Limbo}}
}

func modelTurn(p api.Pool) answer {
	for _, page := range p.Limbo {
		p.Free = lay(p.Free, page)
	}
	return answer{pool: api.Pool{High: p.High, Free: p.Free}}
}

func modelLists(p api.Pool) answer {
	var got answer
	for i, page := range modelTurn(p).pool.Free {
		if i%200 == 0 {
			got.lists = append(got.lists, nil)
		}
		last := len(got.lists) - 1
		got.lists[last] = append(got.lists[last], page)
	}
	return got
}

func modelOf(high int, l [][]int) answer {
	p := api.Pool{High: high, Free: slices.Concat(l...)}
	if got := modelCheck(p, 4096); got.e != api.OK {
		return got
	}
	return answer{pool: p}
}

// mixer gives numbers in no plain order, the same ones in each run.
type mixer uint64

func (x *mixer) upTo(n int) int {
	*x = *x*6364136223846793005 + 1442695040888963407
	return int(uint64(*x)>>33) % n
}

// list is any one: pages in no order, some of them twice, some below 2.
func (x *mixer) list(most, high int) []int {
	var l []int
	for range x.upTo(most + 1) {
		l = append(l, x.upTo(high+3)-1)
	}
	if x.upTo(3) == 0 {
		slices.Sort(l)
	}
	if x.upTo(2) == 0 {
		l = slices.Compact(l)
	}
	return l
}

// allLists are all lists of at most so many pages, each from 1 up to last.
func allLists(most, last int) [][]int {
	all := [][]int{nil}
	for i := 0; i < len(all); i++ {
		if len(all[i]) == most {
			continue
		}
		for page := 1; page <= last; page++ {
			all = append(all, slices.Concat(all[i], []int{page}))
		}
	}
	return all
}

// P6.1 to P6.4: all small pools, those too that may not be, tell what the model tells.
func TestAllSmallPools(t *testing.T) {
	all := allLists(3, 4)
	for _, free := range all {
		for _, limbo := range all {
			for high := 1; high <= 5; high++ {
				smallPool(t, api.Pool{High: high, Free: free, Limbo: limbo})
			}
		}
		if t.Failed() {
			return
		}
	}
}

func smallPool(t *testing.T, p api.Pool) {
	t.Helper()
	what := " of High " + strconv.Itoa(p.High)
	is(t, "Turn"+what, answer{pool: alloc.Turn(p)}, modelTurn(p))
	is(t, "Lists"+what, answer{lists: alloc.Lists(p)}, modelLists(p))
	for _, most := range []int{p.High - 1, p.High, p.High + 1} {
		is(t, "Check"+what, answer{e: alloc.Check(p, most)}, modelCheck(p, most))
		q, page, e := alloc.Take(p, most)
		is(t, "Take"+what, answer{pool: q, page: page, e: e}, modelTake(p, most))
	}
	for page := 1; page <= p.High; page++ {
		q, e := alloc.Give(p, page)
		is(t, "Give"+what, answer{pool: q, e: e}, modelGive(p, page))
		q, e = alloc.Back(p, page)
		is(t, "Back"+what, answer{pool: q, e: e}, modelBack(p, page))
	}
	q, e := alloc.Of(p.High, [][]int{p.Free, p.Limbo})
	is(t, "Of"+what, answer{pool: q, e: e}, modelOf(p.High, [][]int{p.Free, p.Limbo}))
}

// P6.1 to P6.4, R4: any pools, long ones too, tell what the model tells, and share nothing.
func TestAnyPools(t *testing.T) {
	for seed := range 3000 {
		x := mixer(seed)
		high := x.upTo(60)
		p := api.Pool{High: high, Free: x.list(12, high), Limbo: x.list(12, high)}
		if seed%50 == 0 {
			p.Free, p.Limbo = x.list(500, 1000), x.list(300, 1000)
		}
		most, page := high+x.upTo(3)-1, x.upTo(high+3)-1
		is(t, "Check", check(t, p, most), modelCheck(p, most))
		is(t, "Take", take(t, p, most), modelTake(p, most))
		is(t, "Give", give(t, p, page), modelGive(p, page))
		is(t, "Back", back(t, p, page), modelBack(p, page))
		is(t, "Turn", turn(t, p), modelTurn(p))
		is(t, "Lists", lists(t, p), modelLists(p))
		l := [][]int{p.Free, x.list(2, high), p.Limbo}
		is(t, "Of", of(t, high, l), modelOf(high, l))
		if t.Failed() {
			t.Fatalf("seed %d: %v", seed, p)
		}
	}
}

// user uses a pool that may be, and keeps book of each page below High: in use, free, or in limbo.
type user struct {
	pool             api.Pool
	used, free, wait map[int]int
}

// held tells whether the pool is one that may be, and just what the user's book says of it.
func (u *user) held(most int) bool {
	in := func(l []int, pages map[int]int) bool {
		for _, page := range l {
			if pages[page] == 0 {
				return false
			}
		}
		return len(l) == len(pages)
	}
	return alloc.Check(u.pool, most) == api.OK && in(u.pool.Free, u.free) && in(u.pool.Limbo, u.wait) &&
		len(u.used)+len(u.free)+len(u.wait) == u.pool.High-2
}

// step does one call that may be, or one that is refused.
func (u *user) step(t *testing.T, x *mixer, most int) {
	t.Helper()
	page := x.upTo(most+2) - 1
	call := x.upTo(9)
	switch {
	case call < 4:
		u.take(t, most)
	case call < 6:
		u.bring(t, give(t, u.pool, page), page, u.wait)
	case call < 8:
		u.bring(t, back(t, u.pool, page), page, u.free)
	case x.upTo(3) == 0:
		u.pool = turn(t, u.pool).pool
		for page := range u.wait {
			u.free[page] = 1
		}
		clear(u.wait)
	}
}

func (u *user) take(t *testing.T, most int) {
	t.Helper()
	got := take(t, u.pool, most)
	if got.e != api.OK {
		if len(u.used)+len(u.wait) != most-2 {
			t.Errorf("Take: told %d, with %d used and %d in limbo of %d", int(got.e), len(u.used), len(u.wait), most)
		}
		return
	}
	if u.used[got.page] != 0 || u.wait[got.page] != 0 {
		t.Errorf("Take: %d, which is in use, or in limbo", got.page)
	}
	delete(u.free, got.page)
	u.used[got.page] = 1
	u.pool = got.pool
}

func (u *user) bring(t *testing.T, got answer, page int, to map[int]int) {
	t.Helper()
	if (got.e == api.OK) != (u.used[page] != 0) {
		t.Errorf("%d was brought: told %d", page, int(got.e))
	}
	if got.e != api.OK {
		return
	}
	delete(u.used, page)
	to[page] = 1
	u.pool = got.pool
}

// P6.5: whatever is asked of a pool that may be, the answer is one that may be; what is given is not taken before the pool is turned.
func TestPoolsInUse(t *testing.T) {
	for seed := range 100 {
		x := mixer(seed)
		most := 2 + seed%30
		first := of(t, 2, nil)
		u := &user{pool: first.pool, used: map[int]int{}, free: map[int]int{}, wait: map[int]int{}}
		for i := range 200 {
			u.step(t, &x, most)
			if !u.held(most) {
				t.Fatalf("seed %d, step %d: %v", seed, i, u.pool)
			}
			is(t, "Of(Lists)", of(t, u.pool.High, alloc.Lists(u.pool)), turn(t, u.pool))
		}
	}
}

// P6.5: a page that is given is taken only behind a turn, one that is brought back at once.
func TestGivenIsNotTaken(t *testing.T) {
	p := take(t, take(t, api.Pool{High: 2}, 4).pool, 4).pool
	given := give(t, p, 2).pool
	is(t, "Take of what is given", take(t, given, 4), answer{e: api.ErrFull})
	is(t, "Take behind a turn", take(t, turn(t, given).pool, 4), answer{pool: api.Pool{High: 4}, page: 2})
	is(t, "Take of what is back", take(t, back(t, p, 2).pool, 4), answer{pool: api.Pool{High: 4}, page: 2})
	is(t, "Take beyond", take(t, given, 5), answer{pool: api.Pool{High: 5, Limbo: []int{2}}, page: 4})
}
