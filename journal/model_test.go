package journal_test

import (
	"fmt"
	"math/big"
	"regexp"
	"slices"
	"strconv"
	"strings"
	"testing"

	"cambist/api"
)

// The model: entries as the promises' words say them, by patterns, and in numbers without bounds.

var (
	whoIs     = regexp.MustCompile(`^[a-z][a-z0-9]{0,7}$`)
	assetIs   = regexp.MustCompile(`^[A-Z]{1,6}$`)
	requestIs = regexp.MustCompile(`^[a-zA-Z0-9-]{1,12}$`)
	headKeyIs = regexp.MustCompile(`^e\|([0-9a-f]{16})\|0$`)
	headValIs = regexp.MustCompile(`^([0-9a-f]{16})\|([^|]*)\|([1-9][0-9]{0,2})$`)
	legValIs  = regexp.MustCompile(`^([^|]*)\|([^|]*)\|(-?[1-9][0-9]*)$`)
)

func number(n int64) *big.Int { return big.NewInt(n) }

// total is the sum of all legs that are asked for.
func total(legs []api.Leg, asked func(api.Leg) bool) *big.Int {
	sum := number(0)
	for _, one := range legs {
		if asked(one) {
			sum.Add(sum, number(one.Amount))
		}
	}
	return sum
}

func modelCheck(e api.Entry) answer {
	may := requestIs.MatchString(e.Request) && len(e.Legs) >= 2 && len(e.Legs) <= 200
	for _, one := range e.Legs {
		sum := total(e.Legs, func(other api.Leg) bool { return other.Asset == one.Asset })
		may = may && whoIs.MatchString(one.Who) && assetIs.MatchString(one.Asset) && one.Amount != 0 && sum.Sign() == 0
	}
	if !may {
		return refused(api.ErrLegs)
	}
	return answer{}
}

func modelPairs(e api.Entry) answer {
	if no := modelCheck(e); no.e != api.OK {
		return no
	}
	l := list(api.Pair{Key: fmt.Sprintf("e|%016x|0", e.Number), Val: fmt.Sprintf("%016x|%s|%d", e.Day, e.Request, len(e.Legs))})
	for i, one := range e.Legs {
		l = append(l, api.Pair{Key: fmt.Sprintf("e|%016x|1%04x", e.Number, i), Val: fmt.Sprintf("%s|%s|%d", one.Who, one.Asset, one.Amount)})
	}
	return told(l...)
}

// modelLegs are the legs behind a head, if there are so many.
func modelLegs(l []api.Pair, number string, count int) ([]api.Leg, bool) {
	if count > len(l) {
		return nil, false
	}
	var legs []api.Leg
	for i, p := range l[:count] {
		told := legValIs.FindStringSubmatch(p.Val)
		if p.Key != fmt.Sprintf("e|%s|1%04x", number, i) || told == nil {
			return nil, false
		}
		amount, ok := new(big.Int).SetString(told[3], 10)
		if !ok || !amount.IsInt64() {
			return nil, false
		}
		legs = append(legs, leg(told[1], told[2], amount.Int64()))
	}
	return legs, true
}

func hex(s string) uint64 {
	n, _ := strconv.ParseUint(s, 16, 64)
	return n
}

func modelRead(l []api.Pair) answer {
	var all []api.Entry
	for last := ""; len(l) > 0; {
		key, val := headKeyIs.FindStringSubmatch(l[0].Key), headValIs.FindStringSubmatch(l[0].Val)
		if key == nil || val == nil || key[1] <= last {
			return refused(api.ErrEntry)
		}
		count, _ := strconv.Atoi(val[3])
		legs, ok := modelLegs(l[1:], key[1], count)
		e := entry(hex(key[1]), hex(val[1]), val[2], legs...)
		if !ok || modelCheck(e).e != api.OK {
			return refused(api.ErrEntry)
		}
		all, l, last = append(all, e), l[1+count:], key[1]
	}
	return listed(all...)
}

func modelSum(l []api.Entry, who, asset string, from, to uint64) answer {
	sum := number(0)
	for _, e := range l {
		if e.Day >= from && e.Day < to {
			sum.Add(sum, total(e.Legs, func(one api.Leg) bool { return one.Who == who && one.Asset == asset }))
		}
	}
	if !sum.IsInt64() {
		return refused(api.ErrOver)
	}
	return summed(sum.Int64())
}

// mixer gives numbers in no plain order, the same ones in each run.
type mixer uint64

func (x *mixer) upTo(n int) int {
	*x = *x*6364136223846793005 + 1442695040888963407
	return int(uint64(*x)>>33) % n
}

func (x *mixer) word(l string) string {
	words := strings.Split(l, ",")
	return words[x.upTo(len(words))]
}

// amount is any one: mostly a little one, now and then one near a bound.
func (x *mixer) amount(wide bool) int64 {
	if !wide || x.upTo(3) > 0 {
		return int64(x.upTo(41) - 20)
	}
	near := []int64{most, most - 1, least, least + 1, most / 2, least / 2, most/2 + 1, 1 << 40}
	return near[x.upTo(len(near))]
}

func (x *mixer) day() uint64 {
	return []uint64{0, 1, 2, 3, 4, 5, 1 << 40, highest - 1, highest}[x.upTo(9)]
}

// balanced are legs of an entry that may be: as many on the one side as on the other, for each asset.
func (x *mixer) balanced(wide bool) []api.Leg {
	var l []api.Leg
	for range 1 + x.upTo(4) {
		asset, n := x.word("A,USD,XYZ,ABCDEF"), max(1, x.amount(wide))
		l = append(l, leg(x.word("a,ann,bob,world,abcdefg9"), asset, n), leg(x.word("a,ann,bob,world"), asset, -n))
	}
	for i := range l {
		j := i + x.upTo(len(l)-i)
		l[i], l[j] = l[j], l[i]
	}
	return l
}

// book are entries that may be, their numbers rising, of days in no order.
func (x *mixer) book(wide bool) []api.Entry {
	var l []api.Entry
	next := uint64(x.upTo(3))
	for range x.upTo(6) {
		l = append(l, entry(next, x.day(), x.word("R,S-1,aBcDeFgHiJ-9,0"), x.balanced(wide)...))
		next += 1 << (4 * x.upTo(9))
	}
	return l
}

// any are legs of any kind: most lists of them are no entry's.
func (x *mixer) any() []api.Leg {
	var l []api.Leg
	for range x.upTo(6) {
		l = append(l, leg(x.word("ann,bob,world,,Ann,ann|"), x.word("A,USD,USD,USD,,u,A|B"), x.amount(true)))
	}
	return l
}

// all are the pairs of all entries, as the model tells them.
func all(l []api.Entry) []api.Pair {
	var told []api.Pair
	for _, e := range l {
		told = append(told, modelPairs(e).pairs...)
	}
	return told
}

// P12.1, P12.2: whatever an entry is, it is told as the model tells it.
func TestEntriesOfAnyKind(t *testing.T) {
	fine := 0
	for seed := range 6000 {
		x := mixer(seed)
		for _, legs := range [][]api.Leg{x.any(), x.balanced(true), append(x.balanced(false), x.any()...)} {
			e := entry(uint64(x.upTo(99)), x.day(), x.word("R,R,R,S-1,,R|,abcdefghijkl,abcdefghijklm"), legs...)
			is(t, "Check", check(t, e), modelCheck(e))
			got := pairs(t, e)
			is(t, "Pairs", got, modelPairs(e))
			if got.e == api.OK {
				fine++
			}
		}
		if t.Failed() {
			t.Fatalf("seed %d", seed)
		}
	}
	if fine < 3000 || fine > 12000 {
		t.Errorf("%d of 18000 may be", fine)
	}
}

// P12.1: all lists of two legs, and of three, of some names and numbers.
func TestCheckOfAllSmallLists(t *testing.T) {
	var one []api.Leg
	for _, who := range []string{"ann", "world", ""} {
		for _, asset := range []string{"A", "B"} {
			for _, amount := range []int64{least, -2, -1, 0, 1, 2, most} {
				one = append(one, leg(who, asset, amount))
			}
		}
	}
	for _, a := range one {
		for _, b := range one {
			e := entry(1, 1, "R", a, b)
			is(t, "Check of two", check(t, e), modelCheck(e))
			for _, c := range one {
				e := entry(1, 1, "R", a, b, c)
				is(t, "Check of three", check(t, e), modelCheck(e))
			}
		}
	}
}

// P12.3, P12.5: entries are read as they were, and the keys of all their pairs rise.
func TestEntriesAreReadAsTheyWere(t *testing.T) {
	for seed := range 3000 {
		x := mixer(seed)
		book := x.book(seed%2 == 0)
		var l []api.Pair
		for _, e := range book {
			l = append(l, pairs(t, e).pairs...)
		}
		is(t, "Read", read(t, l), listed(book...))
		for i := range l[min(1, len(l)):] {
			if l[i].Key >= l[i+1].Key {
				t.Errorf("%s is ahead of %s", l[i].Key, l[i+1].Key)
			}
		}
		if t.Failed() {
			t.Fatalf("seed %d: %v", seed, book)
		}
	}
}

// P12.3: pairs that are dropped, doubled, turned about, or put elsewhere.
func TestReadOfOtherLists(t *testing.T) {
	fine := 0
	for seed := range 3000 {
		x := mixer(seed)
		l := all(append(x.book(false), entry(1<<50, 1, "R", x.balanced(false)...)))
		i, j := x.upTo(len(l)), x.upTo(len(l))
		turned := slices.Clone(l)
		turned[i], turned[j] = turned[j], turned[i]
		for _, other := range [][]api.Pair{
			slices.Delete(slices.Clone(l), i, i+1),
			slices.Delete(slices.Clone(l), min(i, j), max(i, j)),
			slices.Insert(slices.Clone(l), j, l[i]),
			turned, l[:i], l[i:],
			slices.Concat(l[i:], l[:i]), slices.Concat(l, l),
		} {
			want := modelRead(other)
			is(t, "Read", read(t, other), want)
			if want.e == api.OK {
				fine++
			}
		}
		if t.Failed() {
			t.Fatalf("seed %d: %v", seed, l)
		}
	}
	if fine < 1000 || fine > 20000 {
		t.Errorf("%d of 24000 are entries", fine)
	}
}

// P12.4: sums of any days, of entries that may be, and of others.
func TestSumOfAnyEntries(t *testing.T) {
	over := 0
	for seed := range 5000 {
		x := mixer(seed)
		l := x.book(true)
		for range x.upTo(12) {
			l = append(l, entry(uint64(x.upTo(3)), x.day(), x.word("R,,R|"), x.any()...))
		}
		for range 4 {
			who, asset, from, to := x.word("ann,ann,bob,world,,Ann,an,zoe"), x.word("A,USD,USD,XYZ,,u,AB"), x.day(), x.day()
			if seed%2 == 0 {
				from, to = 0, highest-1
			}
			want := modelSum(l, who, asset, from, to)
			is(t, "Sum", sum(t, l, who, asset, from, to), want)
			if want.e != api.OK {
				over++
			}
		}
		if t.Failed() {
			t.Fatalf("seed %d: %v", seed, l)
		}
	}
	if over < 100 {
		t.Errorf("%d of 20000 are beyond", over)
	}
}

// P12.5: of each asset, all that everyone got on any days sums to 0; what came up to a day, and from it on, is all.
func TestBooks(t *testing.T) {
	asked := 0
	for seed := range 2000 {
		x := mixer(seed)
		l := x.book(false)
		from, mid, to := x.day(), x.day(), x.day()
		for _, asset := range []string{"A", "USD", "XYZ", "ABCDEF"} {
			got := int64(0)
			for _, who := range []string{"a", "ann", "bob", "world", "abcdefg9"} {
				n := sum(t, l, who, asset, from, to).n
				got += n
				if n != 0 {
					asked++
				}
				if from <= mid && mid <= to && sum(t, l, who, asset, from, mid).n+sum(t, l, who, asset, mid, to).n != n {
					t.Errorf("seed %d: %s's %s from %d to %d, and to %d", seed, who, asset, from, mid, to)
				}
			}
			if got != 0 {
				t.Fatalf("seed %d: all got %d of %s: %v", seed, got, asset, l)
			}
		}
	}
	if asked < 1000 {
		t.Errorf("%d sums are not 0", asked)
	}
}
