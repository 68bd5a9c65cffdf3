package auction_test

import (
	"fmt"
	"slices"
	"testing"

	"cambist/api"
)

// exampleBuys and exampleSells are the sides of the chapter's examples.
func exampleBuys() []api.Order  { return list(buy(1, 21, 5), buy(2, 20, 5)) }
func exampleSells() []api.Order { return list(sell(3, 19, 4), sell(4, 20, 9)) }

// The chapter's examples.
func TestExamples(t *testing.T) {
	buys, sells := exampleBuys(), exampleSells()
	for p, want := range map[int64]int64{19: 4, 20: 10, 21: 5} {
		is(t, fmt.Sprint("Volume ", p), volume(t, buys, sells, p), much(want))
	}
	is(t, "Price", price(t, buys, sells), best(20, 10))
	is(t, "Trades", match(t, buys, sells), traded(20, [3]int64{1, 3, 4}, [3]int64{1, 4, 1}, [3]int64{2, 4, 5}))
}

// The limits that the chapter names.
func TestNumbers(t *testing.T) {
	if api.MaxPrice != million || api.MaxAmount != million {
		t.Errorf("%d, %d", api.MaxPrice, api.MaxAmount)
	}
}

// volumes holds the volumes of prices against those that are asked for.
func volumes(t *testing.T, buys, sells []api.Order, want map[int64]int64) {
	t.Helper()
	for p, v := range want {
		is(t, fmt.Sprint("Volume ", p), volume(t, buys, sells, p), much(v))
	}
}

// P14.1: the lesser sum of both, just at and beside each order's price.
func TestVolume(t *testing.T) {
	b, s := list(buy(1, 30, 3), buy(2, 20, 4), buy(3, 10, 5)), list(sell(4, 9, 6), sell(5, 20, 2), sell(6, 29, 100))
	volumes(t, b, s, map[int64]int64{1: 0, 8: 0, 9: 6, 10: 6, 11: 6, 19: 6, 20: 7, 21: 3, 28: 3, 29: 3, 30: 3, 31: 0})
	volumes(t, list(b[2], b[0], b[1]), list(s[1], s[2], s[0]), map[int64]int64{8: 0, 9: 6, 20: 7, 21: 3, 31: 0})
	volumes(t, list(buy(1, 20, 7)), list(sell(2, 20, 5)), map[int64]int64{19: 0, 20: 5, 21: 0})
	volumes(t, list(buy(1, 20, 5)), list(sell(2, 20, 7)), map[int64]int64{19: 0, 20: 5, 21: 0})
	volumes(t, list(buy(1, 20, 5)), list(sell(2, 20, 5)), map[int64]int64{19: 0, 20: 5, 21: 0})
}

// P14.1: prices at both ends, and beyond: nothing is traded where no order may be.
func TestVolumeAtTheEnds(t *testing.T) {
	b, s := list(buy(1, million, million), buy(2, 1, 1)), list(sell(3, 1, 5), sell(4, million, million))
	volumes(t, b, s, map[int64]int64{0: 0, 1: 5, 2: 5, million - 1: 5, million: million, million + 1: 0})
	volumes(t, b, s, map[int64]int64{-1: 0, least: 0, least + 1: 0, 1 << 32: 0, 1<<32 + 1: 0, most: 0, most - 1: 0})
	volumes(t, b[1:], s[:1], map[int64]int64{0: 0, 1: 1, 2: 0})
	volumes(t, b[:1], s[1:], map[int64]int64{million - 1: 0, million: million, million + 1: 0})
}

// P14.1, P14.2, P14.4: of a side without orders nothing is traded.
func TestEmptySides(t *testing.T) {
	for _, none := range [][]api.Order{nil, list()} {
		for _, l := range [][]api.Order{none, exampleSells(), exampleBuys(), many(1000, 1, sell(0, 1, million))} {
			for _, p := range []int64{least, 0, 1, 19, 20, million, most} {
				is(t, "Volume", volume(t, none, l, p), answer{})
				is(t, "Volume", volume(t, l, none, p), answer{})
			}
			is(t, "Price", price(t, none, l), answer{})
			is(t, "Price", price(t, l, none), answer{})
			is(t, "Trades", match(t, none, l), answer{})
			is(t, "Trades", match(t, l, none), answer{})
		}
		for _, quantity := range []int64{least, -1, 0, 1, million, most} {
			is(t, "Fills", fills(t, none, quantity), answer{})
		}
	}
}

// auctioned holds Price and Trades against what is asked for, and the Volume of the price, too.
func auctioned(t *testing.T, what string, buys, sells []api.Order, at, quantity int64, parts ...[3]int64) {
	t.Helper()
	is(t, "Price: "+what, price(t, buys, sells), best(at, quantity))
	is(t, "Volume: "+what, volume(t, buys, sells, at), much(quantity))
	is(t, "Trades: "+what, match(t, buys, sells), traded(at, parts...))
}

// P14.2, P14.4: one order a side, of all prices at the ends and beside each other.
func TestOneOrderASide(t *testing.T) {
	prices := []int64{1, 2, 3, 19, 20, 21, 22, 65536, million - 1, million}
	for _, b := range prices {
		for _, s := range prices {
			for _, left := range [][2]int64{{1, 1}, {5, 4}, {4, 5}, {5, 5}, {million, million}, {1, million}, {million, 1}, {million, million - 1}} {
				what := fmt.Sprint(b, s, left)
				buys, sells := list(buy(8, b, left[0])), list(sell(9, s, left[1]))
				if b < s {
					auctioned(t, what, buys, sells, 0, 0)
					continue
				}
				quantity := min(left[0], left[1])
				auctioned(t, what, buys, sells, s, quantity, [3]int64{8, 9, quantity})
			}
		}
	}
}

// P14.2, P14.4: no price, if each one who sells asks more than each one who buys.
func TestNothingIsTraded(t *testing.T) {
	b := list(buy(1, 20, 9), buy(2, 19, 9), buy(3, 1, 9))
	s := list(sell(4, 21, 9), sell(5, 22, 9), sell(6, million, million))
	auctioned(t, "one beside the other", b, s, 0, 0)
	auctioned(t, "far away", list(buy(1, 1, million)), list(sell(2, million, million)), 0, 0)
	for p := int64(18); p < 25; p++ {
		is(t, "Volume", volume(t, b, s, p), answer{})
	}
	for _, p := range []int64{1, million} {
		is(t, "Volume", volume(t, b, s, p), answer{})
	}
}

// P14.2: of several prices at which as much is traded the least one.
func TestLeastPrice(t *testing.T) {
	for _, c := range []struct {
		what             string
		buys, sells      []api.Order
		price, quantity  int64
		also, less, more int64
	}{
		{"a gap", list(buy(1, 30, 5)), list(sell(2, 10, 5)), 10, 5, 30, 9, 31},
		{"all from 1 on", list(buy(1, million, 5)), list(sell(2, 1, 5)), 1, 5, million, 0, million + 1},
		{"a second one that sells, for none", list(buy(1, 30, 5)), list(sell(2, 10, 5), sell(3, 20, 7)), 10, 5, 20, 9, 31},
		{"a second one that buys, of none", list(buy(1, 30, 5), buy(4, 15, 2)), list(sell(2, 10, 5)), 10, 5, 16, 9, 31},
		{"what is bought has shrunk, what is sold has grown", list(buy(1, 25, 5), buy(2, 15, 5)), list(sell(3, 10, 5), sell(4, 20, 5)), 10, 5, 25, 9, 26},
		{"three that sell", list(buy(1, 25, 6)), list(sell(2, 10, 3), sell(3, 12, 3), sell(4, 14, 3)), 12, 6, 14, 11, 26},
		{"beside each other", list(buy(1, 21, 5)), list(sell(2, 20, 5)), 20, 5, 21, 19, 22},
	} {
		is(t, c.what, price(t, c.buys, c.sells), best(c.price, c.quantity))
		is(t, c.what, volume(t, c.buys, c.sells, c.also), much(c.quantity))
		for _, p := range []int64{c.less, c.more} {
			if v := volume(t, c.buys, c.sells, p).volume; v >= c.quantity {
				t.Errorf("%s: %d at %d", c.what, v, p)
			}
		}
	}
}

// P14.2: a greater price, if one more is traded there; the lesser one, if as much, or one less.
func TestGreatestVolume(t *testing.T) {
	three, two := list(buy(1, 40, 5), buy(2, 30, 6), buy(3, 20, 4)), list(buy(1, 31, 5), buy(2, 30, 9))
	for _, c := range []struct {
		buys, sells     []api.Order
		price, quantity int64
	}{
		{three, list(sell(4, 20, 6), sell(5, 30, 4)), 30, 10},
		{three, list(sell(4, 20, 6), sell(5, 30, 5)), 30, 11},
		{three, list(sell(4, 20, 6), sell(5, 30, 6)), 30, 11},
		{three, list(sell(4, 20, 8), sell(5, 30, 2)), 30, 10},
		{three, list(sell(4, 20, 9), sell(5, 30, 2)), 30, 11},
		{three, list(sell(4, 20, 10), sell(5, 30, 2)), 30, 11},
		{three, list(sell(4, 20, 11), sell(5, 30, 2)), 20, 11},
		{three, list(sell(4, 20, 12), sell(5, 30, 2)), 20, 12},
		{three, list(sell(4, 20, 15), sell(5, 30, 2)), 20, 15},
		{three, list(sell(4, 20, 16), sell(5, 30, 2)), 20, 15},
		{two, list(sell(3, 30, 4), sell(4, 31, 9)), 31, 5},
		{two, list(sell(3, 30, 5), sell(4, 31, 9)), 30, 5},
		{two, list(sell(3, 30, 6), sell(4, 31, 9)), 30, 6},
	} {
		is(t, fmt.Sprint(c.sells), price(t, c.buys, c.sells), best(c.price, c.quantity))
		is(t, fmt.Sprint(c.sells), match(t, c.buys, c.sells), modelTrades(c.buys, c.sells))
	}
}

// P14.2: what an order's Buy and Market say counts for nothing, nor does where it stands, nor whose it is.
func TestWhateverOrdersSay(t *testing.T) {
	turned := func(l []api.Order) []api.Order {
		l = slices.Clone(l)
		for i := range l {
			l[i].Buy, l[i].Market, l[i].Who = !l[i].Buy, []string{"", "ABC-EUR", "\xff"}[i%3], []string{"", "world", "\x00"}[i%3]
		}
		return l
	}
	b, s := exampleBuys(), exampleSells()
	for _, buys := range [][]api.Order{b, turned(b)} {
		for _, sells := range [][]api.Order{s, turned(s)} {
			auctioned(t, "turned", buys, sells, 20, 10, [3]int64{1, 3, 4}, [3]int64{1, 4, 1}, [3]int64{2, 4, 5})
			is(t, "Fills", fills(t, sells, 5), filled(fill(3, 4), fill(4, 1)))
			for p := int64(17); p < 24; p++ {
				is(t, "Volume", volume(t, buys, sells, p), volume(t, b, s, p))
			}
		}
	}
	slices.Reverse(b)
	slices.Reverse(s)
	is(t, "Price of lists turned round", price(t, b, s), best(20, 10))
	one := list(buy(1, 20, 3), sell(2, 20, 4))
	auctioned(t, "one list twice", one, one, 20, 7, [3]int64{1, 1, 3}, [3]int64{2, 2, 4})
}

// P14.3: from the first one on, as long as something is left: nothing, what is less than the first has, just that, one more, and so on, up to more than all have.
func TestFills(t *testing.T) {
	l := list(sell(3, 19, 4), sell(4, 20, 1), sell(9, 20, 7))
	for _, c := range []struct {
		quantity int64
		want     []api.Fill
	}{
		{least, nil}, {-1, nil}, {0, nil},
		{1, []api.Fill{fill(3, 1)}},
		{3, []api.Fill{fill(3, 3)}},
		{4, []api.Fill{fill(3, 4)}},
		{5, []api.Fill{fill(3, 4), fill(4, 1)}},
		{6, []api.Fill{fill(3, 4), fill(4, 1), fill(9, 1)}},
		{11, []api.Fill{fill(3, 4), fill(4, 1), fill(9, 6)}},
		{12, []api.Fill{fill(3, 4), fill(4, 1), fill(9, 7)}},
		{13, []api.Fill{fill(3, 4), fill(4, 1), fill(9, 7)}},
		{most, []api.Fill{fill(3, 4), fill(4, 1), fill(9, 7)}},
	} {
		is(t, fmt.Sprint(c.quantity), fills(t, l, c.quantity), filled(c.want...))
	}
}

// P14.3: prices, and numbers, count for nothing, and each order has a fill of its own, of the same number too.
func TestFillsAsTheyStand(t *testing.T) {
	l := list(buy(9, 1, 2), sell(0, million, 3), buy(highest, 20, 1), buy(9, 1, 2), buy(9, 30, million))
	is(t, "all", fills(t, l, 10), filled(fill(9, 2), fill(0, 3), fill(highest, 1), fill(9, 2), fill(9, 2)))
	is(t, "some", fills(t, l, 6), filled(fill(9, 2), fill(0, 3), fill(highest, 1)))
	is(t, "more", fills(t, l, most), filled(fill(9, 2), fill(0, 3), fill(highest, 1), fill(9, 2), fill(9, million)))
	is(t, "one", fills(t, l[4:], million), filled(fill(9, million)))
	is(t, "one fewer", fills(t, l[4:], million-1), filled(fill(9, million-1)))
}

// P14.4: one buy of many sells, and many buys of one sell, whichever side has more.
func TestOneOfMany(t *testing.T) {
	sells := list(sell(2, 10, 3), sell(7, 11, 1), sell(5, 12, 2))
	auctioned(t, "a buy of all", list(buy(1, 15, 9)), sells, 12, 6, [3]int64{1, 2, 3}, [3]int64{1, 7, 1}, [3]int64{1, 5, 2})
	auctioned(t, "a buy of just all", list(buy(1, 15, 6)), sells, 12, 6, [3]int64{1, 2, 3}, [3]int64{1, 7, 1}, [3]int64{1, 5, 2})
	auctioned(t, "a buy of one fewer", list(buy(1, 15, 5)), sells, 12, 5, [3]int64{1, 2, 3}, [3]int64{1, 7, 1}, [3]int64{1, 5, 1})
	auctioned(t, "a buy of two", list(buy(1, 15, 4)), sells, 11, 4, [3]int64{1, 2, 3}, [3]int64{1, 7, 1})
	auctioned(t, "a buy that pays no more", list(buy(1, 11, 9)), sells, 11, 4, [3]int64{1, 2, 3}, [3]int64{1, 7, 1})
	buys := list(buy(4, 20, 3), buy(3, 19, 1), buy(8, 18, 2))
	auctioned(t, "a sell to all", buys, list(sell(1, 18, 9)), 18, 6, [3]int64{4, 1, 3}, [3]int64{3, 1, 1}, [3]int64{8, 1, 2})
	auctioned(t, "a sell of just all", buys, list(sell(1, 5, 6)), 5, 6, [3]int64{4, 1, 3}, [3]int64{3, 1, 1}, [3]int64{8, 1, 2})
	auctioned(t, "a sell of one fewer", buys, list(sell(1, 5, 5)), 5, 5, [3]int64{4, 1, 3}, [3]int64{3, 1, 1}, [3]int64{8, 1, 1})
	auctioned(t, "a sell of two", buys, list(sell(1, 5, 4)), 5, 4, [3]int64{4, 1, 3}, [3]int64{3, 1, 1})
	auctioned(t, "a sell for no less", buys, list(sell(1, 19, 9)), 19, 4, [3]int64{4, 1, 3}, [3]int64{3, 1, 1})
}

// P14.4: where both sides run out at once, both make way.
func TestBothRunOutAtOnce(t *testing.T) {
	buys, sells := list(buy(1, 30, 5), buy(2, 30, 2), buy(3, 29, 4)), list(sell(4, 10, 5), sell(5, 10, 2), sell(6, 11, 4))
	auctioned(t, "one by one", buys, sells, 11, 11, [3]int64{1, 4, 5}, [3]int64{2, 5, 2}, [3]int64{3, 6, 4})
	auctioned(t, "behind others", buys, list(sell(4, 10, 3), sell(5, 10, 4), sell(6, 11, 5)), 11, 11, [3]int64{1, 4, 3}, [3]int64{1, 5, 2}, [3]int64{2, 5, 2}, [3]int64{3, 6, 4})
	auctioned(t, "both at the end", buys[:1], sells[:1], 10, 5, [3]int64{1, 4, 5})
}

// P14.4: orders beyond the price are left out, however much they have.
func TestBeyondThePrice(t *testing.T) {
	buys, sells := list(buy(1, 22, 3), buy(2, 20, 2), buy(3, 19, million)), list(sell(4, 18, 1), sell(5, 20, 9), sell(6, 21, million))
	auctioned(t, "both sides", buys, sells, 20, 5, [3]int64{1, 4, 1}, [3]int64{1, 5, 2}, [3]int64{2, 5, 2})
}

// P14.4: orders of the same price go by their numbers, and those of the same number as they stand, each with a trade of its own.
func TestOrdersOfOnePrice(t *testing.T) {
	buys, sells := list(buy(0, 20, 2), buy(7, 20, 2), buy(highest, 20, 2)), list(sell(1, 20, 3), sell(8, 20, 9))
	auctioned(t, "the same price", buys, sells[:1], 20, 3, [3]int64{0, 1, 2}, [3]int64{7, 1, 1})
	is(t, "the same price", match(t, buys, sells), answer{price: 20, trades: []api.Trade{
		{Buy: 0, Sell: 1, Quantity: 2, Price: 20}, {Buy: 7, Sell: 1, Quantity: 1, Price: 20}, {Buy: 7, Sell: 8, Quantity: 1, Price: 20}, {Buy: highest, Sell: 8, Quantity: 2, Price: 20},
	}})
	alike := list(buy(7, 20, 2), buy(7, 20, 3), buy(7, 20, 3))
	auctioned(t, "the same number", alike, list(sell(7, 20, 2), sell(7, 20, 4)), 20, 6, [3]int64{7, 7, 2}, [3]int64{7, 7, 3}, [3]int64{7, 7, 1})
	auctioned(t, "the very same", list(alike[1], alike[1]), list(alike[1], alike[1]), 20, 6, [3]int64{7, 7, 3}, [3]int64{7, 7, 3})
}

// P14.1 to P14.4: as many orders as may be, of as much.
func TestManyOrders(t *testing.T) {
	buys, sells := many(1000, 1, buy(0, million, million)), many(1000, 2001, sell(0, million, million))
	is(t, "Price", price(t, buys, sells), best(million, 1000*million))
	is(t, "Price", price(t, buys, many(1000, 2001, sell(0, 1, million))), best(1, 1000*million))
	is(t, "Price", price(t, buys, sells[:999]), best(million, 999*million))
	var want [][3]int64
	for i := range int64(1000) {
		want = append(want, [3]int64{1 + i, 2001 + i, million})
	}
	is(t, "Trades", match(t, buys, sells), traded(million, want...))
	is(t, "Trades", match(t, buys[:500], sells), traded(million, want[:500]...))
	one, all := many(1000, 1, buy(0, 5, 1)), [][3]int64{}
	for i := range int64(1000) {
		all = append(all, [3]int64{1 + i, 9, 1})
	}
	auctioned(t, "one sell", one, list(sell(9, 5, million)), 5, 1000, all...)
	auctioned(t, "one sell of fewer", one, list(sell(9, 5, 999)), 5, 999, all[:999]...)
	if got := fills(t, buys, most); len(got.fills) != 1000 || got.fills[999] != fill(1000, million) {
		t.Errorf("%d fills", len(got.fills))
	}
	if got := fills(t, buys, 999*million+1); len(got.fills) != 1000 || got.fills[999] != fill(1000, 1) {
		t.Errorf("%d fills", len(got.fills))
	}
	if got := fills(t, buys, 999*million); len(got.fills) != 999 {
		t.Errorf("%d fills", len(got.fills))
	}
}

// P14.2: a step of both sides at each of a thousand prices.
func TestAThousandPrices(t *testing.T) {
	var buys, sells []api.Order
	for i := range int64(500) {
		buys = append(buys, buy(uint64(i), million-i, 3))
		sells = append(sells, sell(uint64(i), million-499+i, 2))
	}
	is(t, "Price", price(t, buys, sells), modelPrice(buys, sells))
	is(t, "Trades", match(t, buys, sells), modelTrades(buys, sells))
	is(t, "Price, turned", price(t, sells, buys), modelPrice(sells, buys))
}

// R1, R4, R5: of orders that may not be there is some answer, and the same one each time.
func TestWrongOrders(t *testing.T) {
	amounts := []int64{least, least + 1, -million, -1, 0, 1, 2, million, million + 1, 1 << 32, most - 1, most}
	var all []api.Order
	for _, p := range amounts {
		for _, left := range amounts {
			all = append(all, at(p, buy(uint64(left), 1, left)))
		}
	}
	for i, a := range all {
		for _, b := range all {
			calls(t, list(a), list(b), b.Left)
		}
		calls(t, all[i:], all, a.Left)
		calls(t, all, all[:i], a.Price)
	}
	for seed := range 3000 {
		x := mixer(seed)
		var l [2][]api.Order
		for i := range l {
			for range x.upTo(9) {
				l[i] = append(l[i], all[x.upTo(len(all))])
			}
		}
		calls(t, l[0], l[1], amounts[x.upTo(len(amounts))])
	}
}

// calls makes all calls: that they end, and hold the rules.
func calls(t *testing.T, buys, sells []api.Order, n int64) {
	t.Helper()
	volume(t, buys, sells, n)
	price(t, buys, sells)
	fills(t, buys, n)
	match(t, buys, sells)
	if t.Failed() {
		t.Fatalf("%v; %v; %d", buys, sells, n)
	}
}

// R1: more orders than may be there end too, and in time.
func TestLongLists(t *testing.T) {
	var buys, sells []api.Order
	for i := range int64(200000) {
		buys = append(buys, buy(uint64(i), million-i%1000, 1+i%7))
		sells = append(sells, sell(uint64(i), million-999+i%1000, 1+i%5))
	}
	calls(t, side(buys, true), side(sells, false), million)
}
