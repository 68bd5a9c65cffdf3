package alloc_test

import (
	"slices"
	"testing"

	"cambist/alloc"
	"cambist/api"
)

// answer is all that a call may tell: what a call does not tell is empty.
type answer struct {
	pool  api.Pool
	page  int
	lists [][]int
	e     api.Errno
}

func samePool(a, b api.Pool) bool {
	return a.High == b.High && slices.Equal(a.Free, b.Free) && slices.Equal(a.Limbo, b.Limbo)
}

func same(a, b answer) bool {
	return samePool(a.pool, b.pool) && a.page == b.page && slices.EqualFunc(a.lists, b.lists, slices.Equal) && a.e == b.e
}

// is holds an answer against the one that is asked for.
func is(t *testing.T, what string, got, want answer) {
	t.Helper()
	if !same(got, want) {
		t.Errorf("%s = %v, %d, %v, %d; want %v, %d, %v, %d", what, got.pool, got.page, got.lists, int(got.e), want.pool, want.page, want.lists, int(want.e))
	}
}

// run are the pages from one up to another one, both among them.
func run(from, to int) []int {
	var l []int
	for n := from; n <= to; n++ {
		l = append(l, n)
	}
	return l
}

// roomy is a list with spare room behind it, in which numbers lie.
func roomy(l []int) []int {
	room := slices.Concat(l, []int{-71, 3, 1 << 40})
	return room[:len(l)]
}

// whole is a list with its spare room.
func whole(l []int) []int { return l[:cap(l)] }

// apart tells whether no two of these lists share memory, spare room too: each is filled with a number of its own.
func apart(lists [][]int) bool {
	for i, l := range lists {
		for j := range whole(l) {
			whole(l)[j] = i
		}
	}
	for i, l := range lists {
		for _, n := range whole(l) {
			if n != i {
				return false
			}
		}
	}
	return true
}

// asked is what a call tells of a pool, and lists: asked of lists with spare room, and of lists without, and held against R4: what is handed in is not changed, and what is answered lies in memory of its own.
func asked(t *testing.T, what string, p api.Pool, lists [][]int, ask func(p api.Pool, lists [][]int) answer) answer {
	t.Helper()
	handed := [][]int{roomy(p.Free), roomy(p.Limbo)}
	for _, l := range lists {
		handed = append(handed, roomy(l))
	}
	var was [][]int
	for _, l := range handed {
		was = append(was, slices.Clone(whole(l)))
	}
	got := ask(api.Pool{High: p.High, Free: handed[0], Limbo: handed[1]}, handed[2:])
	for i, l := range handed {
		if !slices.Equal(whole(l), was[i]) {
			t.Errorf("%s: what was handed in was changed: %v, now %v", what, was[i], whole(l))
		}
	}
	told := got
	told.pool = api.Pool{High: got.pool.High, Free: slices.Clone(got.pool.Free), Limbo: slices.Clone(got.pool.Limbo)}
	told.lists = nil
	for _, l := range got.lists {
		told.lists = append(told.lists, slices.Clone(l))
	}
	if !apart(slices.Concat(handed, got.lists, [][]int{got.pool.Free, got.pool.Limbo})) {
		t.Errorf("%s: memory is shared", what)
	}
	is(t, what+" of lists without spare room", ask(p, lists), told)
	if told.e != api.OK {
		is(t, what+", refused", told, answer{e: told.e})
	}
	return told
}

// check, take, give, back, turn, lists and of are the calls, each held against R4.
func check(t *testing.T, p api.Pool, most int) answer {
	t.Helper()
	return asked(t, "Check", p, nil, func(p api.Pool, _ [][]int) answer { return answer{e: alloc.Check(p, most)} })
}

func take(t *testing.T, p api.Pool, most int) answer {
	t.Helper()
	return asked(t, "Take", p, nil, func(p api.Pool, _ [][]int) answer {
		q, page, e := alloc.Take(p, most)
		return answer{pool: q, page: page, e: e}
	})
}

func give(t *testing.T, p api.Pool, page int) answer {
	t.Helper()
	return asked(t, "Give", p, nil, func(p api.Pool, _ [][]int) answer {
		q, e := alloc.Give(p, page)
		return answer{pool: q, e: e}
	})
}

func back(t *testing.T, p api.Pool, page int) answer {
	t.Helper()
	return asked(t, "Back", p, nil, func(p api.Pool, _ [][]int) answer {
		q, e := alloc.Back(p, page)
		return answer{pool: q, e: e}
	})
}

func turn(t *testing.T, p api.Pool) answer {
	t.Helper()
	return asked(t, "Turn", p, nil, func(p api.Pool, _ [][]int) answer { return answer{pool: alloc.Turn(p)} })
}

func lists(t *testing.T, p api.Pool) answer {
	t.Helper()
	return asked(t, "Lists", p, nil, func(p api.Pool, _ [][]int) answer { return answer{lists: alloc.Lists(p)} })
}

func of(t *testing.T, high int, l [][]int) answer {
	t.Helper()
	return asked(t, "Of", api.Pool{}, l, func(_ api.Pool, l [][]int) answer {
		q, e := alloc.Of(high, l)
		return answer{pool: q, e: e}
	})
}
