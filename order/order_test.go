package order_test

import (
	"fmt"
	"slices"
	"strings"
	"testing"

	"cambist/api"
)

// The chapter's examples.
func TestExamples(t *testing.T) {
	is(t, "Market", market(t, "XYZ-USD"), names("XYZ", "USD"))
	is(t, "Market of one name", market(t, "XYZ-XYZ"), refused(api.ErrArg))
	is(t, "Need of one that buys", need(t, buy(1, 20, 5)), needs("USD", 100))
	is(t, "Need of one that sells", need(t, sell(1, 20, 5)), needs("XYZ", 5))
	l := list(buy(1, 20, 1), buy(2, 21, 1), sell(3, 19, 1))
	is(t, "Sides", sides(t, l, "XYZ-USD"), sided(list(l[1], l[0]), l[2]))
}

// The errors' numbers that the chapter names, and its limits.
func TestNumbers(t *testing.T) {
	for i, e := range []api.Errno{api.ErrArg, api.ErrOrder} {
		if want := []int{1, 130}[i]; int(e) != want {
			t.Errorf("%d, want %d", int(e), want)
		}
	}
	if api.MaxPrice != 1000000 || api.MaxAmount != 1000000 || api.MaxOrders != 200 || api.World != "world" {
		t.Errorf("%d, %d, %d, %s", api.MaxPrice, api.MaxAmount, api.MaxOrders, api.World)
	}
}

// assets are assets' names, and wrongAssets are none.
func assets() []string { return []string{"A", "Z", "AB", "USD", "XYZ", "ABCDEF", "ZZZZZZ"} }

func wrongAssets() []string {
	return []string{"", "usd", "Usd", "US1", "1", "USDUSDX", "US ", " USD", "US-", "-", "U--S", "US|", "US\n", "@", "[", "\x00", "\xff", "Ä", strings.Repeat("A", 5000)}
}

// P13.1: any two assets' names, but one twice.
func TestMarkets(t *testing.T) {
	for _, asset := range assets() {
		for _, cash := range assets() {
			want := names(asset, cash)
			if asset == cash {
				want = refused(api.ErrArg)
			}
			is(t, asset+" "+cash, market(t, asset+"-"+cash), want)
		}
	}
}

// wrongMarkets are texts that are no market's name.
func wrongMarkets() []string {
	l := []string{"", "-", "--", "---", "XYZ", "XYZUSD", "XYZ USD", "XYZ_USD", "XYZ|USD", "XYZ\x2fUSD", "XYZ—USD", "-XYZ-USD", "XYZ-USD-", "XYZ--USD", "A-B-C", "A-B-A", "A-A-B", "XYZ-USD\n", " XYZ-USD", "xyz-usd", strings.Repeat("-", 5000), strings.Repeat("A-", 5000)}
	for _, wrong := range wrongAssets() {
		l = append(l, wrong, wrong+"-USD", "XYZ-"+wrong, wrong+"-"+wrong)
	}
	return l
}

// P13.1, P13.2: any other text is no market's, and no order's.
func TestWrongMarkets(t *testing.T) {
	for _, s := range wrongMarkets() {
		is(t, s, market(t, s), refused(api.ErrArg))
		refuses(t, s, at(s, buy(1, 1, 1)))
		refuses(t, s, at(s, sell(1, 1, 1)))
	}
}

// P13.1: every byte in every place of a name, and of one longer.
func TestMarketOfEveryByte(t *testing.T) {
	for i := range len("AB-CDE") {
		for sign := range 256 {
			b := []byte("AB-CDE")
			b[i] = byte(sign)
			is(t, string(b), market(t, string(b)), modelMarket(string(b)))
			b = slices.Insert([]byte("AB-CDE"), i, byte(sign))
			is(t, string(b), market(t, string(b)), modelMarket(string(b)))
		}
	}
}

// refuses holds an order that may not be against Check, Need, which tells Check's error, and Put.
func refuses(t *testing.T, what string, o api.Order) {
	t.Helper()
	is(t, "Check: "+what, check(t, o), refused(api.ErrOrder))
	is(t, "Need: "+what, need(t, o), refused(api.ErrOrder))
	is(t, "Put to none: "+what, put(t, nil, o), refused(api.ErrOrder))
	is(t, "Put: "+what, put(t, list(buy(3, 1, 1), sell(9, 1, 1)), o), refused(api.ErrOrder))
}

// allows holds an order that may be against Check, Need and Put.
func allows(t *testing.T, what string, o api.Order, asset string, n int64) {
	t.Helper()
	is(t, "Check: "+what, check(t, o), answer{})
	is(t, "Need: "+what, need(t, o), needs(asset, n))
	is(t, "Put: "+what, put(t, nil, o), listed(o))
}

// P13.2: who is a participant's name, but not World.
func TestWho(t *testing.T) {
	for _, who := range []string{"a", "z", "a0", "z9", "ann", "worl", "worlds", "world0", "aworld", "abcdefgh", "a1234567"} {
		allows(t, who, of(who, buy(1, 3, 5)), "USD", 15)
		allows(t, who, of(who, sell(1, 3, 5)), "XYZ", 5)
	}
	for _, who := range []string{"world", "", "7", "7ann", "Ann", "ann ", "a-b", "abcdefghi", "ann|", "\x00", "\xff", "ä", "World", strings.Repeat("a", 5000)} {
		refuses(t, who, of(who, buy(1, 3, 5)))
		refuses(t, who, of(who, sell(1, 3, 5)))
	}
}

// P13.2: a price, and what is left, are 1 to a million; what is needed of cash is their product.
func TestPricesAndAmounts(t *testing.T) {
	may := []int64{1, 2, 3, 7, 65536, 999999, 1000000}
	for _, price := range may {
		for _, left := range may {
			what := fmt.Sprint(price, left)
			allows(t, what, buy(1, price, left), "USD", price*left)
			allows(t, what, sell(1, price, left), "XYZ", left)
			allows(t, what, at("A-ABCDEF", buy(1, price, left)), "ABCDEF", price*left)
			allows(t, what, at("ABCDEF-A", sell(1, price, left)), "ABCDEF", left)
		}
	}
	for _, wrong := range []int64{0, -1, -2, -1000000, 1000001, 1000002, 1 << 32, 1<<32 + 1, 1 << 40, most, most - 1, least, least + 1} {
		for _, fine := range append(may, wrong) {
			refuses(t, fmt.Sprint(wrong, fine), buy(1, wrong, fine))
			refuses(t, fmt.Sprint(wrong, fine), sell(1, wrong, fine))
			refuses(t, fmt.Sprint(fine, wrong), buy(1, fine, wrong))
			refuses(t, fmt.Sprint(fine, wrong), sell(1, fine, wrong))
		}
	}
	refuses(t, "nothing", api.Order{})
}

// P13.2: any number may be.
func TestAnyNumberMayBe(t *testing.T) {
	for _, number := range []uint64{0, 1, 2, 1 << 32, 1 << 63, 1<<63 - 1, highest - 1, highest} {
		allows(t, fmt.Sprint(number), buy(number, 4, 6), "USD", 24)
		allows(t, fmt.Sprint(number), sell(number, 4, 6), "XYZ", 6)
	}
}

// P13.3: an order stands ahead of the first one whose number is greater, wherever that is.
func TestPut(t *testing.T) {
	l := list(buy(2, 20, 1), sell(5, 19, 1), buy(1<<63, 21, 1))
	for _, c := range []struct {
		number uint64
		place  int
	}{
		{0, 0}, {1, 0}, {3, 1}, {4, 1}, {6, 2}, {1<<63 - 1, 2}, {1<<63 + 1, 3}, {highest, 3},
	} {
		o := of("zoe", sell(c.number, 1, 9))
		is(t, fmt.Sprint(c.number), put(t, l, o), listed(slices.Insert(slices.Clone(l), c.place, o)...))
	}
	for _, o := range l {
		is(t, "Put twice", put(t, l, o), refused(api.ErrOrder))
		is(t, "Put of a known number", put(t, l, at("ABC-EUR", sell(o.Number, 9, 9))), refused(api.ErrOrder))
	}
}

// P13.3: orders that do not rise, or may not be, are kept as they are: the first one that is greater counts, not the last, nor the next.
func TestPutAmongOthers(t *testing.T) {
	l := list(sell(9, -1, 0), buy(3, 0, least), of("world", buy(7, 1, 1)), api.Order{Number: 3}, sell(9, 1, 1))
	for _, c := range []struct {
		number uint64
		place  int
	}{
		{0, 0}, {4, 0}, {8, 0}, {10, 5}, {highest, 5},
	} {
		o := buy(c.number, 4, 4)
		is(t, fmt.Sprint(c.number), put(t, l, o), listed(slices.Insert(slices.Clone(l), c.place, o)...))
	}
	o := buy(8, 4, 4)
	is(t, "ahead of the first greater one", put(t, l[1:], o), listed(l[1], l[2], l[3], o, l[4]))
	for _, number := range []uint64{3, 7, 9} {
		is(t, "Put of a known number", put(t, l, buy(number, 4, 4)), refused(api.ErrOrder))
	}
}

// many are so many orders, of every second number.
func many(n int) []api.Order {
	var l []api.Order
	for i := range n {
		l = append(l, buy(uint64(2*i+2), 1+int64(i%7), 1))
	}
	return l
}

// P13.3: there are 200 orders at most.
func TestHowManyOrders(t *testing.T) {
	for _, n := range []int{0, 1, 2, 100, 198, 199} {
		l, first, last := many(n), sell(1, 5, 5), sell(highest, 5, 5)
		is(t, fmt.Sprint(n), put(t, l, first), listed(slices.Concat(list(first), l)...))
		is(t, fmt.Sprint(n), put(t, l, last), listed(slices.Concat(l, list(last))...))
	}
	for _, n := range []int{200, 201, 202, 1000} {
		is(t, fmt.Sprint(n), put(t, many(n), sell(1, 5, 5)), refused(api.ErrOrder))
		is(t, fmt.Sprint(n), put(t, many(n), sell(highest, 5, 5)), refused(api.ErrOrder))
		is(t, fmt.Sprint(n), put(t, many(n), api.Order{}), refused(api.ErrOrder))
		l := many(n)
		is(t, fmt.Sprint(n), drop(t, l, l[n/2].Number), dropped(l[n/2], slices.Delete(slices.Clone(l), n/2, n/2+1)...))
	}
}

// P13.3: the first order of a number is taken out, and told as it was; the others stay as they are.
func TestDrop(t *testing.T) {
	l := list(buy(2, 20, 1), sell(5, 19, 3), at("ABC-EUR", buy(highest, 21, 1)))
	is(t, "the first", drop(t, l, 2), dropped(l[0], l[1], l[2]))
	is(t, "the second", drop(t, l, 5), dropped(l[1], l[0], l[2]))
	is(t, "the last", drop(t, l, highest), dropped(l[2], l[0], l[1]))
	is(t, "the only one", drop(t, l[1:2], 5), dropped(l[1]))
	for _, number := range []uint64{0, 1, 3, 4, 6, 1 << 32, highest - 1} {
		is(t, "none", drop(t, l, number), refused(api.ErrOrder))
		is(t, "of none", drop(t, nil, number), refused(api.ErrOrder))
		is(t, "without members", drop(t, list(), number), refused(api.ErrOrder))
	}
	odd := list(api.Order{Number: 9, Price: least}, of("world", sell(0, -1, 0)), buy(9, 1, 1), sell(4, 1, 1), buy(9, 2, 2))
	is(t, "the first of three", drop(t, odd, 9), dropped(odd[0], odd[1:]...))
	is(t, "behind that", drop(t, odd[1:], 9), dropped(odd[2], odd[1], odd[3], odd[4]))
	is(t, "that may not be", drop(t, odd, 0), dropped(odd[1], odd[0], odd[2], odd[3], odd[4]))
	is(t, "nothing", drop(t, list(api.Order{}), 0), dropped(api.Order{}))
}

// P13.3: what is put and dropped again is as it was.
func TestPutAndDrop(t *testing.T) {
	l := many(20)
	for number := range uint64(45) {
		o := sell(number, 3, 3)
		next := put(t, l, o)
		if number >= 2 && number%2 == 0 && number <= 40 {
			is(t, "Put", next, refused(api.ErrOrder))
			continue
		}
		is(t, "Drop", drop(t, next.l, number), dropped(o, l...))
	}
}

// P13.4: those that buy, a greater price first; those that sell, a lesser one; of the same price a lesser number first.
func TestSides(t *testing.T) {
	b := list(buy(4, 20, 1), buy(1, 20, 2), buy(3, 21, 3), buy(highest, 21, 4), buy(2, 19, 5), buy(0, 20, 6))
	s := list(sell(7, 20, 1), sell(6, 20, 2), sell(9, 21, 3), sell(8, 19, 4), sell(1<<63, 19, 5), sell(5, 21, 6))
	best := list(b[2], b[3], b[5], b[1], b[0], b[4])
	cheap := list(s[3], s[4], s[1], s[0], s[5], s[2])
	for _, l := range [][]api.Order{slices.Concat(b, s), slices.Concat(s, b), mixed(b, s), mixed(s, b)} {
		is(t, "Sides", sides(t, l, "XYZ-USD"), sided(best, cheap...))
	}
	is(t, "buys alone", sides(t, b, "XYZ-USD"), sided(best))
	is(t, "sells alone", sides(t, s, "XYZ-USD"), sided(nil, cheap...))
}

// mixed are two lists of the same length, one of the first, one of the second, and so on.
func mixed(a, b []api.Order) []api.Order {
	var l []api.Order
	for i := range a {
		l = append(l, a[i], b[i])
	}
	return l
}

// P13.4: of the same price and number each stays where it was, whatever else it has.
func TestSidesOfTheSameNumber(t *testing.T) {
	var b, s []api.Order
	for i := range 60 {
		b = append(b, of(fmt.Sprint("p", 60-i), buy(7, 20, int64(60-i))))
		s = append(s, of(fmt.Sprint("p", 60-i), sell(7, 20, int64(60-i))))
	}
	is(t, "Sides", sides(t, mixed(b, s), "XYZ-USD"), sided(b, s...))
	ahead, behind := buy(7, 21, 1), buy(7, 19, 1)
	is(t, "Sides", sides(t, slices.Concat(list(behind), b, list(ahead), s), "XYZ-USD"), sided(slices.Concat(list(ahead), b, list(behind)), s...))
}

// P13.4: orders of other markets are none of a market's, and a text that is no market's is asked like any other.
func TestSidesOfOtherMarkets(t *testing.T) {
	other := list(at("ABC-USD", buy(1, 20, 1)), at("USD-XYZ", sell(2, 20, 1)), at("XYZ-US", buy(3, 20, 1)), at("", sell(4, 20, 1)), at("XYZ-USDX", sell(5, 20, 1)), at("xyz-usd", buy(6, 20, 1)), at("XYZ", buy(7, 20, 1)))
	own := list(sell(8, 20, 1), buy(9, 20, 1))
	for _, l := range [][]api.Order{slices.Concat(own, other), slices.Concat(other, own), slices.Concat(other[:3], own, other[3:])} {
		is(t, "Sides", sides(t, l, "XYZ-USD"), sided(own[1:], own[0]))
		is(t, "of a text that is none", sides(t, l, ""), sided(nil, other[3]))
		is(t, "of half a name", sides(t, l, "XYZ"), sided(other[6:]))
		is(t, "of an unknown one", sides(t, l, "EUR-USD"), answer{})
	}
	is(t, "of none", sides(t, nil, "XYZ-USD"), answer{})
	is(t, "without members", sides(t, list(), "XYZ-USD"), answer{})
}

// P13.4: orders that may not be have their sides too, at any price.
func TestSidesOfWrongOrders(t *testing.T) {
	prices := []int64{most, most - 1, 1 << 32, 1000001, 1, 0, -1, -1 << 32, least + 1, least}
	var b, s []api.Order
	for _, price := range prices {
		b, s = append(b, of("", buy(3, price, 0))), append(s, of("world", sell(3, price, least)))
	}
	back := slices.Clone(s)
	slices.Reverse(back)
	is(t, "Sides", sides(t, mixed(s, b), "XYZ-USD"), sided(b, back...))
	turned := slices.Concat(s, b)
	slices.Reverse(turned)
	is(t, "Sides", sides(t, turned, "XYZ-USD"), sided(b, back...))
}
