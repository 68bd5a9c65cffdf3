package journal_test

import (
	"fmt"
	"slices"
	"strings"
	"testing"

	"cambist/api"
	"cambist/label"
)

// seven is the entry of the chapter's examples, and paid one that is behind it.
func seven() api.Entry {
	return entry(7, 1, "R", leg("ann", "USD", 5), leg("bob", "USD", -5))
}

func paid() api.Entry {
	return entry(300, 2, "S-9", leg("ann", "USD", -20), leg("bob", "XYZ", -1), leg("ann", "XYZ", 1), leg("bob", "USD", 20))
}

// The chapter's examples.
func TestExamples(t *testing.T) {
	l := pairs(t, seven())
	is(t, "Pairs", l, told(
		api.Pair{Key: "e|0000000000000007|0", Val: "0000000000000001|R|2"},
		api.Pair{Key: "e|0000000000000007|10000", Val: "ann|USD|5"},
		api.Pair{Key: "e|0000000000000007|10001", Val: "bob|USD|-5"},
	))
	is(t, "Check of one leg", check(t, entry(7, 1, "R", leg("ann", "USD", 5))), refused(api.ErrLegs))
	is(t, "Read of a head alone", read(t, l.pairs[:1]), refused(api.ErrEntry))
	is(t, "Sum", sum(t, entries(seven()), "ann", "USD", 1, 2), summed(5))
	is(t, "Sum of other days", sum(t, entries(seven()), "ann", "USD", 2, 9), summed(0))
}

// The errors' numbers that the chapter names, and its limit.
func TestNumbers(t *testing.T) {
	for i, e := range []api.Errno{api.ErrOver, api.ErrLegs, api.ErrEntry} {
		if want := []int{10, 120, 121}[i]; int(e) != want {
			t.Errorf("%d, want %d", int(e), want)
		}
	}
	if api.MaxLegs != 200 {
		t.Errorf("%d", api.MaxLegs)
	}
}

// refuses holds an entry that may not be against Check, and Pairs, which tells Check's error.
func refuses(t *testing.T, what string, e api.Entry) {
	t.Helper()
	is(t, "Check: "+what, check(t, e), refused(api.ErrLegs))
	is(t, "Pairs: "+what, pairs(t, e), refused(api.ErrLegs))
}

// allows holds an entry that may be against Check, Pairs and Read.
func allows(t *testing.T, what string, e api.Entry) {
	t.Helper()
	is(t, "Check: "+what, check(t, e), answer{})
	l := pairs(t, e)
	is(t, "Pairs: "+what, l, modelPairs(e))
	is(t, "Read: "+what, read(t, l.pairs), listed(e))
}

// P12.1: the request is a word.
func TestRequests(t *testing.T) {
	for _, word := range []string{"R", "r", "0", "-", "a-B-9", "abcdefghijkl", "------------", "ZZZZZZZZZZZZ"} {
		e := seven()
		e.Request = word
		allows(t, word, e)
	}
	for _, word := range []string{"", "abcdefghijklm", "a b", "a|b", "|", " R", "R ", "R\n", "_", "a.b", "\x00", "\xff", "ä", "R{", "@", "[", "`", "/", ":", strings.Repeat("R", 5000)} {
		e := seven()
		e.Request = word
		refuses(t, word, e)
	}
}

// split are so many legs that sum to 0: all but the first one are of the same amount.
func split(n int) []api.Leg {
	var l []api.Leg
	for i := range n {
		l = append(l, leg("p"+fmt.Sprint(i), "USD", -1))
	}
	if n > 0 {
		l[0].Amount = int64(n - 1)
	}
	return l
}

// P12.1: 2 to 200 legs.
func TestHowManyLegs(t *testing.T) {
	for _, n := range []int{2, 3, 9, 10, 15, 16, 17, 99, 100, 199, 200} {
		allows(t, fmt.Sprint(n), entry(1, 1, "R", split(n)...))
	}
	for _, n := range []int{0, 1, 201, 202, 400, 5000} {
		refuses(t, fmt.Sprint(n), entry(1, 1, "R", split(n)...))
	}
	refuses(t, "a list without members", api.Entry{Request: "R", Legs: []api.Leg{}})
	refuses(t, "nothing", api.Entry{})
	refuses(t, "one leg of nothing", entry(1, 1, "R", leg("ann", "USD", 0)))
}

// P12.1: each leg has names, wherever it stands.
func TestNames(t *testing.T) {
	for _, who := range []string{"a", "z9", "world", "abcdefgh", "a1234567"} {
		allows(t, who, entry(1, 1, "R", leg(who, "USD", 5), leg("bob", "USD", -5)))
		allows(t, who, entry(1, 1, "R", leg("bob", "USD", 5), leg(who, "USD", -5)))
		allows(t, who+" twice", entry(1, 1, "R", leg(who, "USD", 5), leg(who, "USD", -5)))
	}
	for _, asset := range []string{"A", "Z", "USD", "ABCDEF"} {
		allows(t, asset, entry(1, 1, "R", leg("ann", asset, 5), leg("bob", asset, -5)))
	}
	for _, who := range []string{"", "7", "7ann", "Ann", "ann ", "a-b", "abcdefghi", "ann|", "|", "a|b", "\x00", "\xff", strings.Repeat("a", 5000)} {
		refuses(t, who, entry(1, 1, "R", leg(who, "USD", 5), leg("bob", "USD", -5)))
		refuses(t, who, entry(1, 1, "R", leg("bob", "USD", 5), leg(who, "USD", -5)))
		refuses(t, who, entry(1, 1, "R", append(split(199), leg(who, "USD", 0))...))
	}
	for _, asset := range []string{"", "usd", "US1", "ABCDEFG", "US-", "XYZ-USD", "U|", "|", "\x00", "\xff", strings.Repeat("A", 5000)} {
		refuses(t, asset, entry(1, 1, "R", leg("ann", asset, 5), leg("bob", asset, -5)))
		refuses(t, asset, entry(1, 1, "R", leg("ann", "USD", 5), leg("bob", "USD", -5), leg("ann", asset, 5), leg("bob", asset, -5)))
	}
}

// P12.1: no amount is 0, and those of each asset sum to 0, as numbers are.
func TestAmounts(t *testing.T) {
	usd := func(amounts ...int64) []api.Leg {
		var l []api.Leg
		for _, n := range amounts {
			l = append(l, leg("ann", "USD", n))
		}
		return l
	}
	xyz := func(amounts ...int64) []api.Leg {
		l := usd(amounts...)
		for i := range l {
			l[i].Asset = "XYZ"
		}
		return l
	}
	for _, l := range [][]api.Leg{
		usd(1, -1), usd(-1, 1), usd(most, -most), usd(least, most, 1), usd(1, 2, -3), usd(5, 5, 5, -15),
		usd(most, most, least, least, 2), usd(most, most, most, least, least, least, 3), usd(least, least, most, most, 2), usd(most, 1, least),
		append(usd(1, -1), xyz(7, -7)...), append(usd(most, most, -most), append(xyz(3, -3), usd(-most)...)...),
	} {
		allows(t, fmt.Sprint(l), entry(1, 1, "R", l...))
		slices.Reverse(l)
		allows(t, fmt.Sprint(l), entry(1, 1, "R", l...))
	}
	for _, l := range [][]api.Leg{
		usd(0, 0), usd(1, -1, 0), usd(0, 1, -1), usd(1, 0, -1), usd(1, 1), usd(-1, -1), usd(1, -2), usd(2, -1), usd(most, least), usd(least+1, most, 1),
		usd(least, least), usd(1<<62, 1<<62, 1<<62, 1<<62), usd(most, most, 2), usd(most, 2, least), usd(least, least, 1, -1),
		append(usd(5), xyz(-5)...), append(usd(5, -4), xyz(-1)...), append(usd(5, -5), xyz(1)...), append(usd(1, -1), xyz(1, -2)...), append(xyz(1, -2), usd(1, -1)...), append(usd(1, -1), xyz(0, 0)...),
	} {
		refuses(t, fmt.Sprint(l), entry(1, 1, "R", l...))
		slices.Reverse(l)
		refuses(t, fmt.Sprint(l), entry(1, 1, "R", l...))
	}
	odd := append(split(199), leg("ann", "EUR", 1))
	refuses(t, "one that is not balanced, behind many", entry(1, 1, "R", odd...))
}

// P12.1, P12.2: any number and any day may be, and are written whole.
func TestNumbersAndDays(t *testing.T) {
	for _, n := range []uint64{0, 1, 9, 10, 15, 16, 255, 1 << 31, 1<<32 - 1, 1 << 32, 1<<63 - 1, 1 << 63, highest - 1, highest} {
		e := seven()
		e.Number = n
		allows(t, "the number", e)
		e = seven()
		e.Day = n
		allows(t, "the day", e)
	}
	l := pairs(t, entry(highest, highest, "R", leg("ann", "USD", least), leg("ann", "USD", most), leg("ann", "USD", 1)))
	is(t, "Pairs", l, told(
		api.Pair{Key: "e|ffffffffffffffff|0", Val: "ffffffffffffffff|R|3"},
		api.Pair{Key: "e|ffffffffffffffff|10000", Val: "ann|USD|-9223372036854775808"},
		api.Pair{Key: "e|ffffffffffffffff|10001", Val: "ann|USD|9223372036854775807"},
		api.Pair{Key: "e|ffffffffffffffff|10002", Val: "ann|USD|1"},
	))
}

// P12.2, P12.5: places are written in four signs of sixteens, so that the keys of many legs rise.
func TestPlaces(t *testing.T) {
	l := pairs(t, entry(0xabc, 3, "R", split(200)...)).pairs
	if len(l) != 201 || l[0].Val != "0000000000000003|R|200" {
		t.Fatalf("%d pairs, %v", len(l), l)
	}
	for i, end := range map[int]string{0: "10000", 1: "10001", 9: "10009", 10: "1000a", 15: "1000f", 16: "10010", 99: "10063", 159: "1009f", 160: "100a0", 199: "100c7"} {
		if want := "e|0000000000000abc|" + end; l[1+i].Key != want {
			t.Errorf("place %d: %s, want %s", i, l[1+i].Key, want)
		}
	}
	for i, p := range l {
		if i > 0 && l[i-1].Key >= p.Key {
			t.Errorf("%s is ahead of %s", l[i-1].Key, p.Key)
		}
		if space, parts, no := label.Split(p.Key); space != 'e' || len(parts) != 2 || no != api.OK {
			t.Errorf("%s is no key", p.Key)
		}
	}
}

// The longest names and numbers still are pairs that a page holds.
func TestPairsArePages(t *testing.T) {
	l := split(200)
	l[0] = leg("abcdefgh", "ABCDEF", least)
	l[1], l[2] = leg("abcdefgh", "ABCDEF", most), leg("abcdefgh", "ABCDEF", 1)
	l[3].Amount = 200 - 4
	told := pairs(t, entry(highest, highest, "abcdefghijkl", l...)).pairs
	if len(told) != 201 {
		t.Errorf("%d pairs", len(told))
	}
	for _, p := range told {
		if len(p.Key) > api.MaxKey || len(p.Val) > api.MaxVal || len(p.Val) == 0 {
			t.Errorf("%v", p)
		}
	}
}

// P12.3: entries one behind the other, their numbers rising.
func TestReadOfSome(t *testing.T) {
	a, b, c := seven(), paid(), entry(301, 1, "R", split(200)...)
	for _, l := range [][]api.Entry{nil, entries(a), entries(b), entries(a, b), entries(a, c), entries(b, c), entries(a, b, c)} {
		is(t, "Read", read(t, all(l)), listed(l...))
	}
	is(t, "Read of a list without members", read(t, list()), answer{})
	for _, l := range [][]api.Entry{entries(b, a), entries(a, a), entries(c, b), entries(a, b, b), entries(b, a, c), entries(a, c, b), entries(a, b, a), entries(c, c)} {
		is(t, "Read of numbers that do not rise", read(t, all(l)), refused(api.ErrEntry))
	}
	x, y, z := all(entries(a)), all(entries(b)), list(api.Pair{}, api.Pair{Key: "x", Val: "y"}, api.Pair{Key: "e|0000000000000007|0"}, api.Pair{Val: "0000000000000001|R|2"}, api.Pair{Key: "e|0000000000000007", Val: "0000000000000001|R|2"})
	for _, l := range [][]api.Pair{
		x[:1], x[:2], x[1:], x[2:], y[:4], slices.Concat(x[:2], y), slices.Concat(x, y[:1]), slices.Concat(x, y[:4]), slices.Concat(x, y[1:]),
		slices.Concat(x[:1], y, x[1:]), slices.Concat(x[:1], y[1:3]), slices.Concat(x, x[1:]), slices.Concat(x, x[2:]), list(x[0], x[2], x[1]), list(x[1], x[0], x[2]), list(x[0], x[0], x[1], x[2]), list(x[0], x[1], x[1]),
	} {
		is(t, "Read", read(t, l), refused(api.ErrEntry))
	}
	for _, p := range z {
		is(t, "Read of a pair", read(t, list(p)), refused(api.ErrEntry))
		is(t, "Read of a pair ahead", read(t, append(list(p), x...)), refused(api.ErrEntry))
		is(t, "Read of a pair behind", read(t, append(slices.Clone(x), p)), refused(api.ErrEntry))
		is(t, "Read of a pair between", read(t, slices.Concat(x, list(p), y)), refused(api.ErrEntry))
	}
}

// P12.3: how many legs a head tells of: just as many as there are, as an amount is written.
func TestReadOfCounts(t *testing.T) {
	with := func(e api.Entry, count string) []api.Pair {
		l := list(api.Pair{Key: "e|0000000000000007|0", Val: "0000000000000001|R|" + count})
		for i, one := range e.Legs {
			l = append(l, api.Pair{Key: fmt.Sprintf("e|0000000000000007|1%04x", i), Val: fmt.Sprintf("%s|%s|%d", one.Who, one.Asset, one.Amount)})
		}
		return l
	}
	wrong := strings.Fields("0 1 3 -1 -2 -0 00 02 +2 2. 2e0 0x2 200 201 255 256 65538 2147483650 4294967298 -4294967294 9223372036854775807 -9223372036854775808 9223372036854775808 18446744073709551618 -9223372036854775809 two")
	for _, count := range append(wrong, "", " 2", "2 ", "2|", "|2", "2\n", "\x002", "２", strings.Repeat("9", 5000)) {
		is(t, "Read of "+count, read(t, with(seven(), count)), refused(api.ErrEntry))
		is(t, "Read of a head of "+count, read(t, with(entry(7, 1, "R"), count)), refused(api.ErrEntry))
	}
	is(t, "Read of 2", read(t, with(seven(), "2")), listed(seven()))
	for n := range 260 {
		e := entry(7, 1, "R", split(n)...)
		want := refused(api.ErrEntry)
		if 2 <= n && n <= 200 {
			want = listed(e)
		}
		is(t, "Read of so many", read(t, with(e, fmt.Sprint(n))), want)
		is(t, "Read of one more", read(t, with(e, fmt.Sprint(n+1))), refused(api.ErrEntry))
		is(t, "Read of one less", read(t, with(e, fmt.Sprint(n-1))), refused(api.ErrEntry))
	}
}

// P12.3: what a leg tells is an entry's: names, amounts as they are written, and sums of 0.
func TestReadOfLegs(t *testing.T) {
	for _, val := range []string{"bob|USD|-5", "bob|USD|-05", "bob|USD|5", "bob|USD|-4", "bob|USD|-6", "bob|USD|0", "bob|USD|-0", "bob|USD|", "bob|USD", "bob||-5", "|USD|-5", "||", "|||", "", "bob|USD|-5|", "bob|USD|-5|x", "|bob|USD|-5",
		"Bob|USD|-5", "bob|usd|-5", "bob|XYZ|-5", "bob|USD| -5", "bob|USD|-5 ", "bob|USD|- 5", "bob|USD|-5.0", "bob|USD|−5", "bob USD -5", "zoe|USD|-5", "bob|USD|18446744073709551611", "bob|USD|-18446744073709551621", "world|USD|-5",
		"bob|USD|-5" + strings.Repeat("|", 5000), strings.Repeat("b", 5000) + "|USD|-5"} {
		l := all(entries(seven()))
		l[2].Val = val
		is(t, "Read of "+val, read(t, l), modelRead(l))
	}
	l := all(entries(seven()))
	l[1].Val, l[2].Val = "ann|USD|0", "bob|USD|0"
	is(t, "Read of nothing", read(t, l), refused(api.ErrEntry))
	l[1].Val, l[2].Val = "ann|USD|-9223372036854775808", "bob|USD|-9223372036854775808"
	is(t, "Read of a sum beyond", read(t, l), refused(api.ErrEntry))
	l[1].Val, l[2].Val = "ann|USD|9223372036854775808", "bob|USD|-9223372036854775808"
	is(t, "Read of an amount beyond", read(t, l), refused(api.ErrEntry))
	l[1].Val, l[2].Val = "ann|USD|9223372036854775807", "bob|USD|-9223372036854775807"
	is(t, "Read of the most", read(t, l), listed(entry(7, 1, "R", leg("ann", "USD", most), leg("bob", "USD", -most))))
}

// spoilt are all texts that are a text with one byte turned, dropped, put in, or cut off there.
func spoilt(s string) []string {
	var l []string
	for i := range len(s) + 1 {
		for b := range 256 {
			put := string([]byte{byte(b)})
			l = append(l, s[:i]+put+s[i:])
			if i < len(s) {
				l = append(l, s[:i]+put+s[i+1:])
			}
		}
		l = append(l, s[:i], s[i:])
		if i < len(s) {
			l = append(l, s[:i]+s[i+1:], s[:i]+s[i:i+1]+s[i:])
		}
	}
	return l
}

// P12.3: whatever one byte of a pair becomes, there are entries of just these pairs, or none.
func TestReadOfTurnedBytes(t *testing.T) {
	was := all(entries(seven(), paid()))
	read(t, was)
	fine := 0
	for i, p := range was {
		for _, key := range spoilt(p.Key) {
			l := slices.Clone(was)
			l[i].Key = key
			is(t, key, read(t, l), modelRead(l))
		}
		for _, val := range spoilt(p.Val) {
			l := slices.Clone(was)
			l[i].Val = val
			want := modelRead(l)
			is(t, val, read(t, l), want)
			if want.e == api.OK {
				fine++
			}
		}
		if t.Failed() {
			t.Fatalf("pair %d", i)
		}
	}
	if fine < 1000 {
		t.Errorf("%d may be", fine)
	}
}

// P12.4: from a day on, below another one.
func TestSumOfDays(t *testing.T) {
	var l []api.Entry
	for _, day := range []uint64{3, 0, 1, highest, 2, highest - 1, 3} { // days need not rise
		amount := int64(1) << (4 * len(l))
		l = append(l, entry(uint64(len(l)), day, "R", leg("ann", "USD", amount), leg("bob", "USD", -amount)))
	}
	for _, c := range []struct {
		from, to uint64
		want     int64
	}{
		{0, 0, 0}, {0, 1, 0x10}, {1, 1, 0}, {1, 2, 0x100}, {0, 2, 0x110}, {0, 3, 0x10110}, {2, 3, 0x10000}, {3, 3, 0}, {3, 4, 0x1000001}, {2, 4, 0x1010001}, {4, 9, 0}, {4, 3, 0}, {3, 0, 0}, {2, 1, 0},
		{0, highest, 0x1110111}, {3, highest, 0x1100001}, {highest - 1, highest, 0x100000}, {highest, highest, 0}, {highest, 0, 0}, {highest, highest - 1, 0}, {4, highest - 1, 0}, {1 << 63, highest, 0x100000}, {0, 1 << 63, 0x1010111},
	} {
		what := fmt.Sprintf("Sum from %d to %d", c.from, c.to)
		is(t, what, sum(t, l, "ann", "USD", c.from, c.to), summed(c.want))
		is(t, what+" of the other one", sum(t, l, "bob", "USD", c.from, c.to), summed(-c.want))
		is(t, what+" of nobody", sum(t, l, "zoe", "USD", c.from, c.to), summed(0))
		is(t, what+" in none", sum(t, nil, "ann", "USD", c.from, c.to), summed(0))
	}
}

// P12.4: all legs of who and asset, and no others: whatever they are called, and whether the entries may be or not.
func TestSumOfLegs(t *testing.T) {
	l := entries(
		entry(1, 1, "R", leg("ann", "USD", 1), leg("ann", "USD", 2), leg("ann", "XYZ", 4), leg("bob", "USD", 8)),
		entry(1, 1, "", leg("", "", 16), leg("ann", "", 32), leg("", "USD", 64), leg("annUSD", "", 128), leg("Ann", "usd", 256)),
		entry(0, 1, "R|", leg("ann", "USD", 512), leg("ann", "USD", 0)),
		entry(5, 1, "R"),
		entry(2, 2, "R", leg("ann", "USD", 1024)),
	)
	for _, c := range []struct {
		who, asset string
		want       int64
	}{{"ann", "USD", 515}, {"ann", "XYZ", 4}, {"bob", "USD", 8}, {"bob", "XYZ", 0}, {"", "", 16}, {"ann", "", 32}, {"", "USD", 64}, {"annUSD", "", 128}, {"Ann", "usd", 256}, {"an", "USD", 0}, {"ann", "US", 0}, {"ann", "USDX", 0}, {"USD", "ann", 0}, {"world", "USD", 0}} {
		is(t, "Sum of "+c.who+" "+c.asset, sum(t, l, c.who, c.asset, 1, 2), summed(c.want))
	}
}

// P12.4: only the whole sum is held against 64 bits.
func TestSumBeyond(t *testing.T) {
	of := func(amounts ...int64) []api.Entry {
		var l []api.Entry
		for i, n := range amounts {
			l = append(l, entry(uint64(i), 1, "R", leg("bob", "USD", most), leg("ann", "USD", n)))
		}
		return l
	}
	for _, c := range []struct {
		l    []api.Entry
		want answer
	}{
		{of(most), summed(most)},
		{of(least), summed(least)},
		{of(most, 1), refused(api.ErrOver)},
		{of(1, most), refused(api.ErrOver)},
		{of(least, -1), refused(api.ErrOver)},
		{of(most, 1, -1), summed(most)},
		{of(most, most, least, least, 2), summed(0)},
		{of(least, least), refused(api.ErrOver)},
		{of(1<<62, 1<<62, 1<<62, 1<<62), refused(api.ErrOver)},
		{of(least, -1, 1), summed(least)},
	} {
		is(t, "Sum", sum(t, c.l, "ann", "USD", 0, 9), c.want)
		is(t, "Sum of no days", sum(t, c.l, "ann", "USD", 2, 9), summed(0))
	}
	one := entry(1, 1, "R", leg("ann", "USD", most), leg("ann", "USD", most), leg("ann", "USD", least))
	is(t, "Sum of one entry", sum(t, entries(one), "ann", "USD", 0, 9), summed(most-1))
}
