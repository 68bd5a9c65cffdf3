package order_test

import (
	"fmt"
	"regexp"
	"slices"
	"strings"
	"testing"

	"cambist/api"
)

// The model: orders as the promises' words say them, by patterns, and by what stands ahead of what.

var (
	whoIs    = regexp.MustCompile(`^[a-z][a-z0-9]{0,7}$`)
	marketIs = regexp.MustCompile(`^([A-Z]{1,6})-([A-Z]{1,6})$`)
)

func modelMarket(s string) answer {
	m := marketIs.FindStringSubmatch(s)
	if m == nil || m[1] == m[2] {
		return refused(api.ErrArg)
	}
	return names(m[1], m[2])
}

func modelCheck(o api.Order) answer {
	may := whoIs.MatchString(o.Who) && o.Who != "world" && modelMarket(o.Market).e == api.OK
	if !may || o.Price < 1 || o.Price > 1000000 || o.Left < 1 || o.Left > 1000000 {
		return refused(api.ErrOrder)
	}
	return answer{}
}

func modelNeed(o api.Order) answer {
	m := modelMarket(o.Market)
	switch {
	case modelCheck(o).e != api.OK:
		return modelCheck(o)
	case o.Buy:
		return needs(m.b, o.Price*o.Left)
	}
	return needs(m.a, o.Left)
}

func modelPut(l []api.Order, o api.Order) answer {
	var next []api.Order
	there := false
	for _, other := range l {
		if other.Number == o.Number {
			return refused(api.ErrOrder)
		}
		if !there && other.Number > o.Number {
			next, there = append(next, o), true
		}
		next = append(next, other)
	}
	if modelCheck(o).e != api.OK || len(l) >= 200 {
		return refused(api.ErrOrder)
	}
	if !there {
		next = append(next, o)
	}
	return listed(next...)
}

func modelDrop(l []api.Order, number uint64) answer {
	var next []api.Order
	for i, o := range l {
		if o.Number == number {
			return dropped(o, append(next, l[i+1:]...)...)
		}
		next = append(next, o)
	}
	return refused(api.ErrOrder)
}

// ahead tells whether one of a side, at a place of the list, stands ahead of another one.
func ahead(a, b api.Order, i, j int) bool {
	switch {
	case a.Price != b.Price:
		return a.Price > b.Price == a.Buy
	case a.Number != b.Number:
		return a.Number < b.Number
	}
	return i < j
}

// modelSide lays each order of a side where as many stand ahead of it as there are.
func modelSide(l []api.Order, market string, buys bool) []api.Order {
	asked := func(o api.Order) bool { return o.Market == market && o.Buy == buys }
	places := map[int]api.Order{}
	for i, a := range l {
		better := 0
		for j, b := range l {
			if asked(b) && i != j && ahead(b, a, j, i) {
				better++
			}
		}
		if asked(a) {
			places[better] = a
		}
	}
	var side []api.Order
	for i := range len(places) {
		side = append(side, places[i])
	}
	return side
}

func modelSides(l []api.Order, market string) answer {
	return sided(modelSide(l, market, true), modelSide(l, market, false)...)
}

// mixer gives numbers in no plain order, the same ones in each run.
type mixer uint64

func (x *mixer) upTo(n int) int {
	*x = *x*6364136223846793005 + 1442695040888963407
	return int(uint64(*x)>>33) % n
}

func (x *mixer) word(l string) string {
	words := strings.Split(l, ",")
	return words[x.upTo(len(words))]
}

// amount is one that may be, or, now and then, where others are asked for, one that may not.
func (x *mixer) amount(odd bool) int64 {
	if odd && x.upTo(6) == 0 {
		return []int64{0, -1, 1000001, most, least}[x.upTo(5)]
	}
	if x.upTo(8) == 0 {
		return []int64{1, 2, 999999, 1000000}[x.upTo(4)]
	}
	return int64(18 + x.upTo(5))
}

// number is one of few, or, now and then, any one.
func (x *mixer) number() uint64 {
	if x.upTo(5) == 0 {
		return []uint64{0, 1 << 32, 1 << 63, highest - 1, highest}[x.upTo(5)]
	}
	return uint64(x.upTo(30))
}

// order is one that may be, or, where that is asked for, perhaps may not.
func (x *mixer) order(odd bool) api.Order {
	who, market := "ann,bob,a,worlds,abcdefg9", "XYZ-USD,XYZ-USD,XYZ-USD,ABC-USD,USD-XYZ,A-B"
	if odd && x.upTo(3) == 0 {
		who, market = who+",world,,Ann", market+",XYZ-XYZ,XYZ,,A-B-C"
	}
	return api.Order{Number: x.number(), Who: x.word(who), Market: x.word(market), Buy: x.upTo(2) == 0, Price: x.amount(odd), Left: x.amount(odd)}
}

// orders are some, in any order, of numbers that may stand twice.
func (x *mixer) orders(n int, odd bool) []api.Order {
	var l []api.Order
	for range x.upTo(n) {
		l = append(l, x.order(odd))
	}
	return l
}

// P13.1: all texts of up to five signs, of a few.
func TestMarketOfAllShortTexts(t *testing.T) {
	fine, texts := 0, []string{""}
	for range 5 {
		var longer []string
		for _, s := range texts {
			for _, sign := range "AB-a1" {
				longer = append(longer, s+string(sign))
			}
		}
		for _, s := range longer {
			want := modelMarket(s)
			is(t, s, market(t, s), want)
			if want.e == api.OK {
				fine++
			}
		}
		texts = longer
	}
	if fine < 50 || fine > 200 {
		t.Errorf("%d may be", fine)
	}
}

// P13.1, P13.2: whatever an order is, it is told as the model tells it.
func TestOrdersOfAnyKind(t *testing.T) {
	fine := 0
	for seed := range 6000 {
		x := mixer(seed)
		for range 4 {
			o := x.order(true)
			is(t, "Market", market(t, o.Market), modelMarket(o.Market))
			is(t, "Check", check(t, o), modelCheck(o))
			got := need(t, o)
			is(t, "Need", got, modelNeed(o))
			if got.e == api.OK {
				fine++
			}
		}
		if t.Failed() {
			t.Fatalf("seed %d", seed)
		}
	}
	if fine < 6000 || fine > 20000 {
		t.Errorf("%d of 24000 may be", fine)
	}
}

// P13.3, P13.4: lists of any kind.
func TestListsOfAnyKind(t *testing.T) {
	puts, drops, sidesOf := 0, 0, 0
	for seed := range 6000 {
		x := mixer(seed)
		l := x.orders(14, seed%2 == 0)
		for range 3 {
			o, number := x.order(seed%4 == 0), x.number()
			next, less := put(t, l, o), drop(t, l, number)
			is(t, "Put", next, modelPut(l, o))
			is(t, "Drop", less, modelDrop(l, number))
			if next.e == api.OK {
				puts++
			}
			if less.e == api.OK {
				drops++
			}
		}
		for _, market := range []string{"XYZ-USD", "ABC-USD", "A-B", "", "XYZ", "EUR-USD"} {
			got := sides(t, l, market)
			is(t, "Sides", got, modelSides(l, market))
			if len(got.l) > 1 && len(got.more) > 1 {
				sidesOf++
			}
		}
		if t.Failed() {
			t.Fatalf("seed %d: %v", seed, l)
		}
	}
	if puts < 5000 || puts > 15000 || drops < 2000 || drops > 10000 || sidesOf < 1000 {
		t.Errorf("%d puts, %d drops, %d sides", puts, drops, sidesOf)
	}
}

// P13.4: sides of long lists, where a sort that is not stable would be seen.
func TestSidesOfLongLists(t *testing.T) {
	for seed := range 40 {
		x := mixer(seed)
		l := x.orders(400, true)
		is(t, "Sides", sides(t, l, "XYZ-USD"), modelSides(l, "XYZ-USD"))
		if t.Failed() {
			t.Fatalf("seed %d", seed)
		}
	}
}

// risen tells whether orders stand by their numbers.
func risen(l []api.Order) bool {
	return slices.IsSortedFunc(l, func(a, b api.Order) int {
		if a.Number < b.Number {
			return -1
		}
		return 1
	})
}

// P13.5: orders that are put stand by their numbers, whatever order they come in, and whatever is dropped between.
func TestOrdersThatArePutStandByTheirNumbers(t *testing.T) {
	kept := 0
	for seed := range 600 {
		x := mixer(seed)
		var l []api.Order
		for range 60 {
			got := put(t, l, x.order(false))
			if x.upTo(3) == 0 {
				got = drop(t, l, x.number())
			}
			if got.e == api.OK {
				l = got.l
			}
			if !risen(l) {
				t.Fatalf("seed %d: %v", seed, l)
			}
		}
		kept += len(l)
	}
	if kept < 600*5 {
		t.Errorf("%d were kept", kept)
	}
}

// orderings calls for all orders in which a list can stand.
func orderings(l []api.Order, n int, call func(l []api.Order)) {
	if n == len(l) {
		call(l)
		return
	}
	for i := n; i < len(l); i++ {
		l[n], l[i] = l[i], l[n]
		orderings(l, n+1, call)
		l[n], l[i] = l[i], l[n]
	}
}

// P13.5: all orders in which six come in.
func TestAllOrdersOfComingIn(t *testing.T) {
	want := list(buy(0, 20, 1), sell(1, 19, 1), buy(2, 21, 1), buy(5, 20, 1), sell(1<<63, 19, 1), sell(highest, 18, 1))
	orderings(slices.Clone(want), 0, func(come []api.Order) {
		var l []api.Order
		for _, o := range come {
			l = put(t, l, o).l
		}
		is(t, "Put", listed(l...), listed(want...))
		is(t, "Sides", sides(t, come, "XYZ-USD"), sided(list(want[2], want[0], want[3]), want[5], want[1], want[4]))
	})
}

// counted are orders, and how often each of them stands.
func counted(lists ...[]api.Order) map[api.Order]int {
	times := map[api.Order]int{}
	for _, o := range slices.Concat(lists...) {
		times[o]++
	}
	return times
}

// P13.5: sides of all markets are all orders, each once.
func TestSidesAreAllOrders(t *testing.T) {
	for seed := range 2000 {
		x := mixer(seed)
		l := x.orders(40, true)
		markets := map[string]bool{}
		for _, o := range l {
			markets[o.Market] = true
		}
		var all []api.Order
		for market := range markets {
			got := sides(t, l, market)
			all = slices.Concat(all, got.l, got.more)
		}
		if len(all) != len(l) || fmt.Sprint(counted(all)) != fmt.Sprint(counted(l)) {
			t.Fatalf("seed %d: %v; of %v", seed, all, l)
		}
	}
}
