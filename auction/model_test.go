package auction_test

import (
	"fmt"
	"slices"
	"testing"

	"cambist/api"
)

// The model: sums as the promises' words say them, prices tried one by one, and orders that stand end to end: what is filled of one is what of it lies below a quantity, and what is traded of two is where both lie.

func modelVolume(buys, sells []api.Order, price int64) int64 {
	var bought, sold int64
	for _, o := range buys {
		if o.Price >= price {
			bought += o.Left
		}
	}
	for _, o := range sells {
		if o.Price <= price {
			sold += o.Left
		}
	}
	if bought < sold {
		return bought
	}
	return sold
}

// prices are those at which something may change, and those beside them, rising: between two of them nothing does.
func prices(buys, sells []api.Order) []int64 {
	l := []int64{1, 2, million - 1, million, million + 1}
	for _, o := range slices.Concat(buys, sells) {
		l = append(l, max(1, o.Price-1), o.Price, o.Price+1)
	}
	slices.Sort(l)
	return slices.Compact(l)
}

func modelPrice(buys, sells []api.Order) answer {
	var got answer
	for _, p := range prices(buys, sells) {
		if v := modelVolume(buys, sells, p); v > got.volume {
			got = best(p, v)
		}
	}
	return got
}

// span is from where to where an order lies.
type span struct {
	number   uint64
	from, to int64
}

// spans are orders end to end, as far as they lie below a quantity.
func spans(l []api.Order, quantity int64) []span {
	var all []span
	var from int64
	for _, o := range l {
		if to := min(from+o.Left, quantity); to > from {
			all = append(all, span{o.Number, from, to})
		}
		from += o.Left
	}
	return all
}

func modelFills(l []api.Order, quantity int64) answer {
	var got answer
	for _, s := range spans(l, quantity) {
		got.fills = append(got.fills, fill(s.number, s.to-s.from))
	}
	return got
}

func modelTrades(buys, sells []api.Order) answer {
	m := modelPrice(buys, sells)
	beyond := func(buys bool) func(o api.Order) bool {
		return func(o api.Order) bool { return o.Price != m.price && o.Price < m.price == buys }
	}
	bought := spans(slices.DeleteFunc(slices.Clone(buys), beyond(true)), m.volume)
	sold := spans(slices.DeleteFunc(slices.Clone(sells), beyond(false)), m.volume)
	got := answer{price: m.price}
	for _, b := range bought {
		for _, s := range sold {
			if both := min(b.to, s.to) - max(b.from, s.from); both > 0 {
				got.trades = append(got.trades, api.Trade{Buy: b.number, Sell: s.number, Quantity: both, Price: m.price})
			}
		}
	}
	return got
}

// held holds all that is told of two sides against the model.
func held(t *testing.T, buys, sells []api.Order) {
	t.Helper()
	for _, p := range prices(buys, sells) {
		is(t, fmt.Sprint("Volume ", p), volume(t, buys, sells, p), much(modelVolume(buys, sells, p)))
	}
	is(t, "Price", price(t, buys, sells), modelPrice(buys, sells))
	is(t, "Trades", match(t, buys, sells), modelTrades(buys, sells))
}

// mixer gives numbers in no plain order, the same ones in each run.
type mixer uint64

func (x *mixer) upTo(n int) int {
	*x = *x*6364136223846793005 + 1442695040888963407
	return int(uint64(*x)>>33) % n
}

// amount is one of few, or, now and then, one at an end, or any one.
func (x *mixer) amount(from, few int) int64 {
	switch x.upTo(12) {
	case 0:
		return []int64{1, 2, million - 1, million}[x.upTo(4)]
	case 1:
		return 1 + int64(x.upTo(million))
	}
	return int64(from + x.upTo(few))
}

// orders are some that may be, in any order, of numbers that may stand twice.
func (x *mixer) orders(n, few int) []api.Order {
	var l []api.Order
	for range x.upTo(n) {
		l = append(l, api.Order{Number: uint64(x.upTo(2 * n)), Who: "ann", Buy: x.upTo(2) == 0, Price: x.amount(16, few), Left: x.amount(1, 9)})
	}
	return l
}

// numbers gives each order one of its own, rising.
func numbers(l []api.Order) []api.Order {
	for i := range l {
		l[i].Number = uint64(3*i + 1)
	}
	return l
}

// P14.2, P14.4: all sides of up to two orders, at four prices, of one to three.
func TestAllSmallSides(t *testing.T) {
	var one []api.Order
	for p := range int64(4) {
		for left := range int64(3) {
			one = append(one, buy(1, p+1, left+1))
		}
	}
	lists := [][]api.Order{nil}
	for _, a := range one {
		lists = append(lists, list(a))
		for _, b := range one {
			lists = append(lists, list(a, numbered(2, b)))
		}
	}
	for _, b := range lists {
		for _, s := range lists {
			buys, sells := side(b, true), side(s, false)
			is(t, "Price", price(t, b, s), modelPrice(b, s))
			is(t, "Trades", match(t, buys, sells), modelTrades(buys, sells))
		}
	}
}

// P14.1 to P14.4: sides of any kind.
func TestSidesOfAnyKind(t *testing.T) {
	some, none, gaps := 0, 0, 0
	for seed := range 4000 {
		x := mixer(seed)
		buys, sells := side(x.orders(12, 9), true), side(x.orders(12, 9), false)
		held(t, buys, sells)
		switch p := modelPrice(buys, sells); {
		case p.price == 0:
			none++
		case modelVolume(buys, sells, p.price+1) == p.volume:
			gaps++
		default:
			some++
		}
		if t.Failed() {
			t.Fatalf("seed %d: %v; %v", seed, buys, sells)
		}
	}
	if some < 400 || none < 200 || gaps < 400 {
		t.Errorf("%d with one price, %d with none, %d with more", some, none, gaps)
	}
}

// P14.1, P14.2, P14.4: lists in any order, and of any prices: what is beyond the price is left out, wherever it stands.
func TestListsOfAnyKind(t *testing.T) {
	for seed := range 2000 {
		x := mixer(seed)
		few := []int{1, 3, 60, million - 20}[seed%4]
		buys, sells := x.orders(20, few), x.orders(20, few)
		for _, p := range prices(buys, sells) {
			is(t, fmt.Sprint("Volume ", p), volume(t, buys, sells, p), much(modelVolume(buys, sells, p)))
		}
		is(t, "Price", price(t, buys, sells), modelPrice(buys, sells))
		is(t, "Trades", match(t, buys, sells), modelTrades(buys, sells))
		is(t, "Price of sides", price(t, side(buys, true), side(sells, false)), modelPrice(buys, sells))
		if t.Failed() {
			t.Fatalf("seed %d: %v; %v", seed, buys, sells)
		}
	}
}

// P14.1 to P14.4: long sides.
func TestLongSides(t *testing.T) {
	for seed := range 40 {
		x := mixer(seed)
		buys, sells := side(x.orders(500, 300), true), side(x.orders(500, 300), false)
		is(t, "Price", price(t, buys, sells), modelPrice(buys, sells))
		is(t, "Trades", match(t, buys, sells), modelTrades(buys, sells))
		if t.Failed() {
			t.Fatalf("seed %d", seed)
		}
	}
}

// P14.3: lists of any kind, of any quantity, and of all that end with an order, and one more and one fewer.
func TestFillsOfAnyKind(t *testing.T) {
	for seed := range 2000 {
		x := mixer(seed)
		l := x.orders(15, 5)
		quantities := []int64{least, -1, 0, 1, x.amount(1, 60), most}
		var sum int64
		for _, o := range l {
			sum += o.Left
			quantities = append(quantities, sum-1, sum, sum+1)
		}
		for _, quantity := range quantities {
			is(t, fmt.Sprint("Fills ", quantity), fills(t, l, quantity), modelFills(l, quantity))
		}
		if t.Failed() {
			t.Fatalf("seed %d: %v", seed, l)
		}
	}
}

// filledBy is how much trades fill of each order, by its number; bought and sold tell an order's number of a trade.
func filledBy(l []api.Trade, number func(api.Trade) uint64) map[uint64]int64 {
	all := map[uint64]int64{}
	for _, x := range l {
		all[number(x)] += x.Quantity
	}
	return all
}

func bought(x api.Trade) uint64 { return x.Buy }
func sold(x api.Trade) uint64   { return x.Sell }

// clean holds a side against what is filled of it: no order beyond what it has, or its price, none of others, and none ahead of a better one. It is the sum of all.
func clean(t *testing.T, side []api.Order, price int64, buys bool, got map[uint64]int64) int64 {
	t.Helper()
	var sum int64
	known, open := 0, false
	for _, o := range side {
		quantity, has := got[o.Number]
		switch {
		case has && (quantity < 1 || quantity > o.Left):
			t.Errorf("%d of %v", quantity, o)
		case has && (buys && o.Price < price || !buys && o.Price > price):
			t.Errorf("%v at %d", o, price)
		case has && open:
			t.Errorf("%v is filled, and a better one is not", o)
		}
		if has {
			known++
		}
		open = open || quantity < o.Left
		sum += quantity
	}
	if known != len(got) {
		t.Errorf("%v of %v", got, side)
	}
	return sum
}

// P14.5: what is bought is what is sold; and W5: at no price is more traded, and at no lesser one as much.
func TestWhatIsBoughtIsSold(t *testing.T) {
	for seed := range 4000 {
		x := mixer(seed)
		buys, sells := numbers(side(x.orders(25, 12), true)), numbers(side(x.orders(25, 12), false))
		got, p := match(t, buys, sells), price(t, buys, sells)
		sums := [2]int64{clean(t, buys, got.price, true, filledBy(got.trades, bought)), clean(t, sells, got.price, false, filledBy(got.trades, sold))}
		if sums != [2]int64{p.volume, p.volume} || got.price != p.price {
			t.Errorf("%v are traded at %d; want %v", sums, got.price, p)
		}
		for _, other := range prices(buys, sells) {
			v := volume(t, buys, sells, other).volume
			if v > p.volume || v == p.volume && v > 0 && other < p.price {
				t.Errorf("%d at %d; want %v", v, other, p)
			}
		}
		for _, one := range got.trades {
			if one.Quantity < 1 || one.Price != p.price {
				t.Errorf("%v", one)
			}
		}
		if t.Failed() {
			t.Fatalf("seed %d: %v; %v", seed, buys, sells)
		}
	}
}
