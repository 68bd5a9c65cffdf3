package order_test

import (
	"slices"
	"testing"

	"cambist/api"
	"cambist/order"
)

const (
	most    = 1<<63 - 1
	least   = -1 << 63
	highest = 1<<64 - 1
)

// answer is all that a call may tell: what a call does not tell is empty.
type answer struct {
	l, more []api.Order
	o       api.Order
	a, b    string
	n       int64
	e       api.Errno
}

func same(a, b answer) bool {
	return slices.Equal(a.l, b.l) && slices.Equal(a.more, b.more) && a.o == b.o && a.a == b.a && a.b == b.b && a.n == b.n && a.e == b.e
}

// is holds an answer against the one that is asked for.
func is(t *testing.T, what string, got, want answer) {
	t.Helper()
	if !same(got, want) {
		t.Errorf("%s = %+v; want %+v", what, got, want)
	}
}

// names, needs, listed, dropped, sided and refused are answers of a market, of what is held, of orders, of orders without one, of two sides, and of an error.
func names(asset, cash string) answer                   { return answer{a: asset, b: cash} }
func needs(asset string, n int64) answer                { return answer{a: asset, n: n} }
func listed(l ...api.Order) answer                      { return answer{l: l} }
func dropped(o api.Order, l ...api.Order) answer        { return answer{l: l, o: o} }
func sided(buys []api.Order, sells ...api.Order) answer { return answer{l: buys, more: sells} }
func refused(e api.Errno) answer                        { return answer{e: e} }

// list are orders; buy and sell are one, at is one of another market, and of somebody else's.
func list(l ...api.Order) []api.Order                 { return l }
func buy(number uint64, price, left int64) api.Order  { return by("ann", number, true, price, left) }
func sell(number uint64, price, left int64) api.Order { return by("bob", number, false, price, left) }
func at(market string, o api.Order) api.Order         { o.Market = market; return o }
func of(who string, o api.Order) api.Order            { o.Who = who; return o }

// by is someone's order in the market of the chapter's examples.
func by(who string, number uint64, buys bool, price, left int64) api.Order {
	return api.Order{Number: number, Who: who, Market: "XYZ-USD", Buy: buys, Price: price, Left: left}
}

// spare is what lies in a list's spare room, and spoilt what is laid over an answer.
func spare() api.Order           { return of("spare", sell(7, 7, 7)) }
func spoilt(place int) api.Order { return of("spoilt", buy(uint64(place), 8, 8)) }

// roomy is a list with spare room behind it, in which something lies.
func roomy(l []api.Order) []api.Order {
	return slices.Concat(l, list(spare(), spare(), spare()))[:len(l)]
}

// whole is a list with its spare room.
func whole(l []api.Order) []api.Order { return l[:cap(l)] }

// fill lays one order all over a list, and its spare room.
func fill(l []api.Order, o api.Order) {
	for i := range whole(l) {
		whole(l)[i] = o
	}
}

// filled tells whether fill was the last that was done to a list.
func filled(l []api.Order, o api.Order) bool {
	return !slices.ContainsFunc(whole(l), func(x api.Order) bool { return x != o })
}

// asked is what a call tells of orders: asked of a list with spare room, and of one without, twice, and held against R2, R4 and R5: what is handed in is not changed, what is answered lies in memory of its own, two lists of it in two memories, and beside an error there is nothing else.
func asked(t *testing.T, what string, l []api.Order, ask func(l []api.Order) answer) answer {
	t.Helper()
	handed, was := roomy(l), roomy(l)
	got := ask(handed)
	told := got
	told.l, told.more = slices.Clone(got.l), slices.Clone(got.more)
	fill(got.l, spoilt(1))
	fill(got.more, spoilt(2))
	if !filled(got.l, spoilt(1)) {
		t.Errorf("%s: two lists that were answered share memory", what)
	}
	if !slices.Equal(whole(handed), whole(was)) {
		t.Errorf("%s: what was handed in was changed, or is shared: %v; now %v", what, whole(was), whole(handed))
	}
	for range 2 {
		is(t, what+" again", ask(l), told)
	}
	if told.e != api.OK {
		is(t, what+", refused", told, refused(told.e))
	}
	return told
}

// market, check, need, put, drop and sides are the calls, each held against the rules.
func market(t *testing.T, s string) answer {
	t.Helper()
	return asked(t, "Market", nil, func([]api.Order) answer {
		asset, cash, e := order.Market(s)
		return answer{a: asset, b: cash, e: e}
	})
}

func check(t *testing.T, o api.Order) answer {
	t.Helper()
	return asked(t, "Check", nil, func([]api.Order) answer { return refused(order.Check(o)) })
}

func need(t *testing.T, o api.Order) answer {
	t.Helper()
	return asked(t, "Need", nil, func([]api.Order) answer {
		asset, n, e := order.Need(o)
		return answer{a: asset, n: n, e: e}
	})
}

func put(t *testing.T, l []api.Order, o api.Order) answer {
	t.Helper()
	return asked(t, "Put", l, func(l []api.Order) answer {
		next, e := order.Put(l, o)
		return answer{l: next, e: e}
	})
}

func drop(t *testing.T, l []api.Order, number uint64) answer {
	t.Helper()
	return asked(t, "Drop", l, func(l []api.Order) answer {
		next, o, e := order.Drop(l, number)
		return answer{l: next, o: o, e: e}
	})
}

func sides(t *testing.T, l []api.Order, market string) answer {
	t.Helper()
	return asked(t, "Sides", l, func(l []api.Order) answer {
		buys, sells := order.Sides(l, market)
		return answer{l: buys, more: sells}
	})
}
