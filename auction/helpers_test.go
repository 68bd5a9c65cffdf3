package auction_test

import (
	"slices"
	"testing"

	"cambist/api"
	"cambist/auction"
)

const (
	million = 1000000
	most    = 1<<63 - 1
	least   = -1 << 63
	highest = 1<<64 - 1
)

// answer is all that a call may tell: what a call does not tell is empty.
type answer struct {
	price, volume int64
	fills         []api.Fill
	trades        []api.Trade
}

func same(a, b answer) bool {
	return a.price == b.price && a.volume == b.volume && slices.Equal(a.fills, b.fills) && slices.Equal(a.trades, b.trades)
}

// is holds an answer against the one that is asked for.
func is(t *testing.T, what string, got, want answer) {
	t.Helper()
	if !same(got, want) {
		t.Errorf("%s = %+v; want %+v", what, got, want)
	}
}

// much, best, filled and traded are answers of a volume, of a price and its volume, of fills, and of trades at a price.
func much(volume int64) answer        { return answer{volume: volume} }
func best(price, volume int64) answer { return answer{price: price, volume: volume} }
func filled(l ...api.Fill) answer     { return answer{fills: l} }
func traded(price int64, parts ...[3]int64) answer {
	return answer{price: price, trades: trades(price, parts)}
}
func fill(number uint64, quantity int64) api.Fill {
	return api.Fill{Number: number, Quantity: quantity}
}
func list(l ...api.Order) []api.Order               { return l }
func at(price int64, o api.Order) api.Order         { o.Price = price; return o }
func numbered(number uint64, o api.Order) api.Order { o.Number = number; return o }

// trades are those of a price: whose numbers buy, whose sell, and how much.
func trades(price int64, parts [][3]int64) []api.Trade {
	var l []api.Trade
	for _, p := range parts {
		l = append(l, api.Trade{Buy: uint64(p[0]), Sell: uint64(p[1]), Quantity: p[2], Price: price})
	}
	return l
}

// buy and sell are somebody's orders of one market.
func buy(number uint64, price, left int64) api.Order {
	return api.Order{Number: number, Who: "ann", Market: "XYZ-USD", Buy: true, Price: price, Left: left}
}

func sell(number uint64, price, left int64) api.Order {
	return api.Order{Number: number, Who: "bob", Market: "XYZ-USD", Price: price, Left: left}
}

// many are so many orders of one price and quantity, by their numbers.
func many(n int, from uint64, one api.Order) []api.Order {
	var l []api.Order
	for i := range n {
		l = append(l, numbered(from+uint64(i), one))
	}
	return l
}

// side is a list, the best one first.
func side(l []api.Order, buys bool) []api.Order {
	l = slices.Clone(l)
	slices.SortStableFunc(l, func(a, b api.Order) int {
		switch {
		case a.Price == b.Price && a.Number == b.Number:
			return 0
		case a.Price == b.Price && a.Number < b.Number, a.Price != b.Price && a.Price > b.Price == buys:
			return -1
		}
		return 1
	})
	return l
}

// roomy is a list with spare room behind it, in which something lies.
func roomy(l []api.Order) []api.Order {
	spare := sell(7, 7, 7)
	return slices.Concat(l, list(spare, spare, spare))[:len(l)]
}

// whole is a list with its spare room.
func whole[T any](l []T) []T { return l[:cap(l)] }

// spoil lays one thing all over a list, and its spare room; spoilt tells whether that is what was done to it last.
func spoil[T any](l []T, x T) {
	for i := range whole(l) {
		whole(l)[i] = x
	}
}

func spoilt[T comparable](l []T, x T) bool {
	return !slices.ContainsFunc(whole(l), func(y T) bool { return x != y })
}

// asked is what a call tells of two lists: asked of lists with spare room, and of the same ones without, twice, and held against R4 and R5: what is handed in is not changed, and what is answered is new, whatever becomes of what was answered before.
func asked(t *testing.T, what string, buys, sells []api.Order, ask func(buys, sells []api.Order) answer) answer {
	t.Helper()
	lists, was := [2][]api.Order{roomy(buys), roomy(sells)}, [2][]api.Order{roomy(buys), roomy(sells)}
	got := ask(lists[0], lists[1])
	for i := range lists {
		if !slices.Equal(whole(lists[i]), whole(was[i])) {
			t.Errorf("%s: what was handed in was changed: %v; now %v", what, whole(was[i]), whole(lists[i]))
		}
	}
	told := got
	told.fills, told.trades = slices.Clone(got.fills), slices.Clone(got.trades)
	wrongFill, wrongTrade := fill(highest, least), api.Trade{Buy: highest, Sell: highest, Quantity: least, Price: least}
	spoil(got.fills, wrongFill)
	spoil(got.trades, wrongTrade)
	for range 2 {
		is(t, what+" again", ask(buys, sells), told)
	}
	if !spoilt(got.fills, wrongFill) || !spoilt(got.trades, wrongTrade) {
		t.Errorf("%s: what was answered is kept, and written to", what)
	}
	return told
}

// volume, price, fills and match are the calls, each held against the rules.
func volume(t *testing.T, buys, sells []api.Order, price int64) answer {
	t.Helper()
	return asked(t, "Volume", buys, sells, func(buys, sells []api.Order) answer {
		return much(auction.Volume(buys, sells, price))
	})
}

func price(t *testing.T, buys, sells []api.Order) answer {
	t.Helper()
	return asked(t, "Price", buys, sells, func(buys, sells []api.Order) answer {
		return best(auction.Price(buys, sells))
	})
}

func fills(t *testing.T, side []api.Order, quantity int64) answer {
	t.Helper()
	return asked(t, "Fills", side, nil, func(side, _ []api.Order) answer {
		return filled(auction.Fills(side, quantity)...)
	})
}

func match(t *testing.T, buys, sells []api.Order) answer {
	t.Helper()
	return asked(t, "Trades", buys, sells, func(buys, sells []api.Order) answer {
		l, price := auction.Trades(buys, sells)
		return answer{price: price, trades: l}
	})
}
