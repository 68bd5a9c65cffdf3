package account_test

import (
	"strconv"
	"strings"
	"testing"

	"cambist/api"
)

// The chapter's examples.
func TestExamples(t *testing.T) {
	first := post(t, nil, legs(leg("world", "USD", -500), leg("ann", "USD", 500)))
	is(t, "Post", first, fine(acc("ann", "USD", 500, 0), acc("world", "USD", -500, 0)))
	held := hold(t, first.l, "ann", "USD", 300)
	is(t, "Hold", held, fine(acc("ann", "USD", 500, 300), acc("world", "USD", -500, 0)))
	is(t, "Post of what is held", post(t, held.l, legs(leg("ann", "USD", -300), leg("bob", "USD", 300))), refused(api.ErrFunds))
	is(t, "Free of more", free(t, held.l, "ann", "USD", 301), refused(api.ErrHeld))
}

// The errors' numbers that the chapter names, and its limit.
func TestNumbers(t *testing.T) {
	for i, e := range []api.Errno{api.ErrArg, api.ErrOver, api.ErrBook, api.ErrFunds, api.ErrHeld} {
		if want := []int{1, 10, 110, 111, 112}[i]; int(e) != want {
			t.Errorf("%d, want %d", int(e), want)
		}
	}
	if api.MaxLegs != 200 || api.World != "world" {
		t.Errorf("%d, %s", api.MaxLegs, api.World)
	}
}

// wrongNames are whose and of what no account is.
func wrongNames() [][2]string {
	var l [][2]string
	for _, who := range []string{"", "7", "7ann", "Ann", "ann ", "a-b", "abcdefghi", "ann|", "\x00", "\xff", strings.Repeat("a", 5000)} {
		l = append(l, [2]string{who, "USD"})
	}
	for _, asset := range []string{"", "usd", "US1", "USDUSDX", "US-", "XYZ-USD", "\x00", "\xff", strings.Repeat("A", 5000)} {
		l = append(l, [2]string{"ann", asset}, [2]string{"world", asset})
	}
	return append(l, [2]string{"", ""}, [2]string{"USD", "ann"})
}

// P11.1: one account, by itself, and between two others.
func TestCheckOfOne(t *testing.T) {
	for _, c := range []struct {
		a api.Account
		e api.Errno
	}{
		{acc("ann", "USD", 5, 0), api.OK},
		{acc("ann", "USD", 5, 4), api.OK},
		{acc("ann", "USD", 5, 5), api.OK},
		{acc("ann", "USD", 5, 6), api.ErrBook},
		{acc("ann", "USD", 5, -1), api.ErrBook},
		{acc("ann", "USD", 1, 0), api.OK},
		{acc("ann", "USD", 0, 0), api.ErrBook},
		{acc("ann", "USD", 0, 1), api.ErrBook},
		{acc("ann", "USD", 0, -1), api.ErrBook},
		{acc("ann", "USD", -1, 0), api.ErrBook},
		{acc("ann", "USD", -1, -1), api.ErrBook},
		{acc("ann", "USD", -1, -2), api.ErrBook},
		{acc("ann", "USD", least, least), api.ErrBook},
		{acc("ann", "USD", least, 0), api.ErrBook},
		{acc("ann", "USD", most, 0), api.OK},
		{acc("ann", "USD", most, most), api.OK},
		{acc("ann", "USD", most, least), api.ErrBook},
		{acc("ann", "USD", most-1, most), api.ErrBook},
		{acc("world", "USD", 5, 0), api.OK},
		{acc("world", "USD", -5, 0), api.OK},
		{acc("world", "USD", most, 0), api.OK},
		{acc("world", "USD", least, 0), api.OK},
		{acc("world", "USD", 0, 0), api.ErrBook},
		{acc("world", "USD", 5, 1), api.ErrBook},
		{acc("world", "USD", 5, -1), api.ErrBook},
		{acc("world", "USD", -5, -1), api.ErrBook},
		{acc("world", "USD", -5, -5), api.ErrBook},
		{acc("worlds", "USD", -5, 0), api.ErrBook},
		{acc("worl", "USD", -5, 0), api.ErrBook},
		{acc("b", "B", 1, 0), api.OK},
		{acc("abcdefgh", "ABCDEF", 1, 0), api.OK},
	} {
		what := c.a.Who + " " + strconv.FormatInt(c.a.Balance, 10) + " " + strconv.FormatInt(c.a.Held, 10)
		is(t, what, check(t, list(c.a)), refused(c.e))
		is(t, what+" between others", check(t, list(acc("a", "A", 1, 0), c.a, acc("z", "Z", 1, 0))), refused(c.e))
	}
	for _, n := range wrongNames() {
		a := acc(n[0], n[1], 5, 0)
		is(t, "no name", check(t, list(a)), refused(api.ErrBook))
		is(t, "no name, ahead", check(t, list(a, acc("z", "Z", 1, 0))), refused(api.ErrBook))
		is(t, "no name, behind", check(t, list(acc("a", "A", 1, 0), a)), refused(api.ErrBook))
	}
}

// P11.1: accounts rise, by Who, and of the same Who by Asset, as Go compares texts.
func TestCheckOfOrder(t *testing.T) {
	var rising []api.Account
	for _, who := range []string{"a", "a0", "a9", "aa", "ann", "ann7", "anna", "b", "world", "z"} {
		for _, asset := range []string{"A", "AA", "AB", "B", "USD", "XYZ"} {
			rising = append(rising, acc(who, asset, 1, 0))
		}
	}
	is(t, "none", check(t, nil), answer{})
	is(t, "without members", check(t, list()), answer{})
	is(t, "all", check(t, rising), answer{})
	for i, a := range rising {
		is(t, "one", check(t, list(a)), answer{})
		for j, b := range rising {
			want := answer{}
			if i >= j {
				want = refused(api.ErrBook)
			}
			is(t, a.Who+" "+a.Asset+", "+b.Who+" "+b.Asset, check(t, list(a, b)), want)
		}
	}
	for i := 1; i < len(rising); i++ {
		turned := list(rising...)
		turned[i-1], turned[i] = rising[i], rising[i-1]
		is(t, "turned about", check(t, turned), refused(api.ErrBook))
		turned = list(rising...)
		turned[i] = rising[i-1]
		is(t, "twice", check(t, turned), refused(api.ErrBook))
	}
}

// book are accounts that may be: two of an asset, two of a participant, and World's.
func book() []api.Account {
	return list(acc("ann", "USD", 500, 300), acc("ann", "XYZ", 7, 0), acc("bob", "USD", 200, 200), acc("world", "USD", -700, 0), acc("world", "XYZ", -7, 0), acc("zoe", "ABC", most, 1))
}

// P11.2: what is there is told as it is, what is not as nothing, whatever it is called.
func TestFind(t *testing.T) {
	for _, a := range book() {
		is(t, "Find", find(t, book(), a.Who, a.Asset), fine(a))
	}
	for _, n := range append(wrongNames(), [2]string{"bob", "XYZ"}, [2]string{"zed", "USD"}, [2]string{"world", "ABC"}, [2]string{"ann", "U"}, [2]string{"an", "USD"}, [2]string{"annUSD", ""}) {
		is(t, "Find of none", find(t, book(), n[0], n[1]), fine(acc(n[0], n[1], 0, 0)))
		is(t, "Find in none", find(t, nil, n[0], n[1]), fine(acc(n[0], n[1], 0, 0)))
	}
}

// P11.2: the sum of an asset's balances, wherever a sum of some of them lies.
func TestTotal(t *testing.T) {
	for _, c := range []struct {
		l     []api.Account
		asset string
		n     int64
		e     api.Errno
	}{
		{book(), "USD", 0, api.OK},
		{book(), "XYZ", 0, api.OK},
		{book(), "ABC", most, api.OK},
		{book(), "AB", 0, api.OK},
		{book(), "", 0, api.OK},
		{book(), "no name", 0, api.OK},
		{nil, "USD", 0, api.OK},
		{book()[:3], "USD", 700, api.OK},
		{book()[1:], "USD", -500, api.OK},
		{list(acc("ann", "USD", most, most), acc("bob", "USD", 1, 0)), "USD", 0, api.ErrOver},
		{list(acc("ann", "USD", most, 0), acc("bob", "USD", 1, 0), acc("world", "USD", -1, 0)), "USD", most, api.OK},
		{list(acc("ann", "USD", most, 0), acc("bob", "USD", most, 0), acc("world", "USD", least, 0)), "USD", most - 1, api.OK},
		{list(acc("ann", "USD", most, 0), acc("bob", "XYZ", 1, 0)), "USD", most, api.OK},
		{list(acc("ann", "USD", 1, 0), acc("world", "USD", least, 0)), "USD", least + 1, api.OK},
		{list(acc("world", "USD", least, 0)), "USD", least, api.OK},
	} {
		is(t, "Total", total(t, c.l, c.asset), answer{n: c.n, e: c.e})
	}
}

// P11.3: how many legs there are, and what they are called: ahead of all else.
func TestPostOfWrongLegs(t *testing.T) {
	many := func(n int, amount int64) []api.Leg {
		var l []api.Leg
		for range n {
			l = append(l, leg("bob", "USD", amount))
		}
		return l
	}
	is(t, "no leg", post(t, book(), nil), refused(api.ErrArg))
	is(t, "no leg, of a list", post(t, book(), legs()), refused(api.ErrArg))
	is(t, "no leg, no account", post(t, nil, nil), refused(api.ErrArg))
	is(t, "200 legs", post(t, nil, many(200, 1)), fine(acc("bob", "USD", 200, 0)))
	for _, n := range []int{201, 202, 1000} {
		for _, amount := range []int64{0, 1, -1, most} {
			is(t, "too many", post(t, nil, many(n, amount)), refused(api.ErrArg))
		}
	}
	for _, n := range wrongNames() {
		wrong := leg(n[0], n[1], 1)
		for _, l := range [][]api.Leg{legs(wrong), append(many(199, 1), wrong), append(legs(wrong), many(199, 1)...), append(many(2, most), wrong), append(many(2, -most), wrong), legs(leg(n[0], n[1], 0))} {
			is(t, "no name", post(t, book(), l), refused(api.ErrArg))
		}
	}
}

// P11.3: balances, by the sums of their legs.
func TestPost(t *testing.T) {
	b := book()
	for _, c := range []struct {
		what string
		l    []api.Account
		legs []api.Leg
		want answer
	}{
		{"a new account in none", nil, legs(leg("ann", "USD", 5)), fine(acc("ann", "USD", 5, 0))},
		{"new ones, not in order", nil, legs(leg("zed", "USD", 1), leg("bob", "XYZ", 2), leg("bob", "USD", 3), leg("ann", "XYZ", 4)), fine(acc("ann", "XYZ", 4, 0), acc("bob", "USD", 3, 0), acc("bob", "XYZ", 2, 0), acc("zed", "USD", 1, 0))},
		{"one ahead of all", b, legs(leg("aaa", "USD", 1)), fine(append(list(acc("aaa", "USD", 1, 0)), b...)...)},
		{"one behind all", b, legs(leg("zoe", "USD", 1)), fine(append(b[:6:6], acc("zoe", "USD", 1, 0))...)},
		{"one between", b, legs(leg("bob", "ABC", 1)), fine(b[0], b[1], acc("bob", "ABC", 1, 0), b[2], b[3], b[4], b[5])},
		{"more", b, legs(leg("ann", "USD", 1)), fine(acc("ann", "USD", 501, 300), b[1], b[2], b[3], b[4], b[5])},
		{"less, down to what is held", b, legs(leg("ann", "USD", -200)), fine(acc("ann", "USD", 300, 300), b[1], b[2], b[3], b[4], b[5])},
		{"less than what is held", b, legs(leg("ann", "USD", -201)), refused(api.ErrFunds)},
		{"all is held", b, legs(leg("bob", "USD", -1)), refused(api.ErrFunds)},
		{"down to nothing", b, legs(leg("ann", "XYZ", -7)), fine(b[0], b[2], b[3], b[4], b[5])},
		{"below nothing", b, legs(leg("ann", "XYZ", -8)), refused(api.ErrFunds)},
		{"less of none", b, legs(leg("bob", "XYZ", -1)), refused(api.ErrFunds)},
		{"less of none, in none", nil, legs(leg("bob", "XYZ", least)), refused(api.ErrFunds)},
		{"nothing", b, legs(leg("ann", "USD", 0)), fine(b...)},
		{"nothing of none", b, legs(leg("bob", "XYZ", 0)), fine(b...)},
		{"nothing of none, in none", nil, legs(leg("bob", "XYZ", 0)), fine()},
		{"World less", b, legs(leg("world", "USD", -1)), fine(b[0], b[1], b[2], acc("world", "USD", -701, 0), b[4], b[5])},
		{"World less, in none", nil, legs(leg("world", "USD", least)), fine(acc("world", "USD", least, 0))},
		{"World above 0", b, legs(leg("world", "USD", 701)), fine(b[0], b[1], b[2], acc("world", "USD", 1, 0), b[4], b[5])},
		{"World of nothing", b, legs(leg("world", "USD", 700)), fine(b[0], b[1], b[2], b[4], b[5])},
		{"a name that begins as World's", b, legs(leg("worlds", "USD", -1)), refused(api.ErrFunds)},
		{"only the sum asks for funds", b, legs(leg("ann", "XYZ", -1000), leg("ann", "USD", -300), leg("ann", "XYZ", 999), leg("ann", "USD", 100)), fine(acc("ann", "USD", 300, 300), acc("ann", "XYZ", 6, 0), b[2], b[3], b[4], b[5])},
		{"legs of the same add up", b, legs(leg("ann", "USD", -100), leg("ann", "USD", -101)), refused(api.ErrFunds)},
		{"one goes, another one comes", b, legs(leg("ann", "XYZ", -7), leg("ann", "ABC", 7)), fine(acc("ann", "ABC", 7, 0), b[0], b[2], b[3], b[4], b[5])},
		{"assets are not mixed", b, legs(leg("ann", "XYZ", -8), leg("ann", "USD", 8)), refused(api.ErrFunds)},
		{"all at once, or none", b, legs(leg("ann", "USD", 1), leg("world", "USD", -1), leg("ann", "XYZ", -8)), refused(api.ErrFunds)},
	} {
		is(t, c.what, post(t, c.l, c.legs), c.want)
	}
}

// P11.3: sums, and balances, beyond 64 bits.
func TestPostBeyond(t *testing.T) {
	rich := list(acc("ann", "USD", most, 0), acc("world", "USD", least, 0))
	for _, c := range []struct {
		what string
		l    []api.Account
		legs []api.Leg
		want answer
	}{
		{"up to the most", list(acc("ann", "USD", 5, 0)), legs(leg("ann", "USD", most-5)), fine(acc("ann", "USD", most, 0))},
		{"one more", list(acc("ann", "USD", 5, 0)), legs(leg("ann", "USD", most-4)), refused(api.ErrOver)},
		{"the most and one", rich, legs(leg("ann", "USD", 1)), refused(api.ErrOver)},
		{"the least less one", rich, legs(leg("world", "USD", -1)), refused(api.ErrOver)},
		{"World from the least up", rich, legs(leg("world", "USD", most)), fine(rich[0], acc("world", "USD", -1, 0))},
		{"World down to the least", list(acc("world", "USD", -1, 0)), legs(leg("world", "USD", least+1)), fine(acc("world", "USD", least, 0))},
		{"World down from the most", list(acc("world", "USD", most, 0)), legs(leg("world", "USD", least)), fine(acc("world", "USD", -1, 0))},
		{"a part of a sum is beyond", rich, legs(leg("ann", "USD", most), leg("ann", "USD", most), leg("ann", "USD", least), leg("ann", "USD", least)), fine(acc("ann", "USD", most-2, 0), rich[1])},
		{"a sum is beyond, a balance is not", list(acc("world", "USD", -5, 0)), legs(leg("world", "USD", most), leg("world", "USD", 1)), refused(api.ErrOver)},
		{"a sum is below, a balance is not", list(acc("ann", "USD", most, 0)), legs(leg("ann", "USD", least), leg("ann", "USD", -1)), refused(api.ErrOver)},
		{"a sum is below, of none", nil, legs(leg("ann", "USD", least), leg("ann", "USD", -1)), refused(api.ErrOver)},
		{"the least sum", list(acc("ann", "USD", most, 0)), legs(leg("ann", "USD", least)), refused(api.ErrFunds)},
		{"all of the most", list(acc("ann", "USD", most, 0)), legs(leg("ann", "USD", -most)), fine()},
	} {
		is(t, c.what, post(t, c.l, c.legs), c.want)
	}
}

// P11.3: the error that is told is the first one, by Who, and of the same Who by Asset, wherever its legs stand, and whether it has an account.
func TestPostTellsTheFirstError(t *testing.T) {
	b := list(acc("ann", "USD", 5, 5), acc("bob", "ABC", most, 0), acc("bob", "USD", 5, 0), acc("world", "ABC", most, 0), acc("zoe", "USD", most, most))
	wrong := []struct {
		leg api.Leg
		e   api.Errno
	}{ // as they rise
		{leg("abe", "USD", -1), api.ErrFunds},
		{leg("ann", "USD", most), api.ErrOver},
		{leg("ann", "XYZ", least), api.ErrFunds},
		{leg("bob", "ABC", 1), api.ErrOver},
		{leg("bob", "USD", -6), api.ErrFunds},
		{leg("world", "ABC", 1), api.ErrOver},
		{leg("xu", "A", -1), api.ErrFunds},
		{leg("zoe", "USD", 1), api.ErrOver},
		{leg("zoe", "XYZ", -1), api.ErrFunds},
	}
	for i, x := range wrong {
		is(t, "one", post(t, b, legs(x.leg)), refused(x.e))
		for j, y := range wrong {
			if i == j {
				continue
			}
			want := refused(wrong[min(i, j)].e)
			is(t, "two", post(t, b, legs(x.leg, y.leg)), want)
			is(t, "two, and more that may be", post(t, b, legs(leg("a", "A", 1), x.leg, leg("world", "USD", -9), y.leg, leg("zz", "Z", 3))), want)
		}
	}
}

// P11.4: what may not be held, or freed: ahead of whether it is there.
func TestHoldWrong(t *testing.T) {
	calls := []func(*testing.T, []api.Account, string, string, int64) answer{hold, free}
	for i, l := range [][]api.Account{book(), nil, list(acc("world", "USD", 9, 0))} {
		what := "list " + strconv.Itoa(i)
		for _, call := range calls {
			for _, n := range []int64{0, -1, -300, least} {
				is(t, what+", below 1", call(t, l, "ann", "USD", n), refused(api.ErrArg))
				is(t, what+", of none, below 1", call(t, l, "abe", "USD", n), refused(api.ErrArg))
				is(t, what+", World, below 1", call(t, l, "world", "USD", n), refused(api.ErrArg))
			}
			for _, n := range []int64{1, 2, 1000, most} {
				is(t, what+", World", call(t, l, "world", "USD", n), refused(api.ErrArg))
				is(t, what+", World of none", call(t, l, "world", "QQQ", n), refused(api.ErrArg))
				for _, wrong := range wrongNames() {
					is(t, what+", no name", call(t, l, wrong[0], wrong[1], n), refused(api.ErrArg))
				}
			}
		}
	}
}

// P11.4: as much as there is, and is not held; as much as is held.
func TestHoldAndFree(t *testing.T) {
	calls := map[string]func(*testing.T, []api.Account, string, string, int64) answer{"Hold": hold, "Free": free}
	for _, c := range []struct {
		call          string
		balance, held int64
		n, then       int64
		e             api.Errno
	}{
		{"Hold", 5, 0, 1, 1, api.OK},
		{"Hold", 5, 0, 5, 5, api.OK},
		{"Hold", 5, 0, 6, 0, api.ErrFunds},
		{"Hold", 5, 3, 2, 5, api.OK},
		{"Hold", 5, 3, 3, 0, api.ErrFunds},
		{"Hold", 5, 5, 1, 0, api.ErrFunds},
		{"Hold", 5, 3, most, 0, api.ErrFunds},
		{"Hold", most, 0, most, most, api.OK},
		{"Hold", most, 1, most - 1, most, api.OK},
		{"Hold", most, 1, most, 0, api.ErrFunds},
		{"Hold", most, most, 1, 0, api.ErrFunds},
		{"Hold", most - 1, most - 1, most, 0, api.ErrFunds},
		{"Free", 5, 5, 1, 4, api.OK},
		{"Free", 5, 5, 5, 0, api.OK},
		{"Free", 5, 5, 6, 0, api.ErrHeld},
		{"Free", 5, 3, 3, 0, api.OK},
		{"Free", 5, 3, 4, 0, api.ErrHeld},
		{"Free", 5, 0, 1, 0, api.ErrHeld},
		{"Free", 5, 0, most, 0, api.ErrHeld},
		{"Free", most, most, most, 0, api.OK},
		{"Free", most, most - 1, most, 0, api.ErrHeld},
	} {
		a, b := acc("ann", "XYZ", 90, 40), acc("bobby", "USD", 90, 40)
		l := list(a, acc("bob", "USD", c.balance, c.held), b)
		want := refused(c.e)
		if c.e == api.OK {
			want = fine(a, acc("bob", "USD", c.balance, c.then), b)
		}
		what := c.call + " " + strconv.FormatInt(c.n, 10) + " of " + strconv.FormatInt(c.balance, 10)
		is(t, what, calls[c.call](t, l, "bob", "USD", c.n), want)
	}
	for _, n := range []int64{1, 2, 40, most} { // of what there is not
		for _, l := range [][]api.Account{nil, book(), list(acc("ann", "XYZ", 90, 40))} {
			is(t, "Hold of none", hold(t, l, "abe", "XYZ", n), refused(api.ErrFunds))
			is(t, "Hold of none of it", hold(t, l, "ann", "ABC", n), refused(api.ErrFunds))
			is(t, "Free of none", free(t, l, "abe", "XYZ", n), refused(api.ErrHeld))
			is(t, "Free of none of it", free(t, l, "ann", "ABC", n), refused(api.ErrHeld))
		}
	}
}
