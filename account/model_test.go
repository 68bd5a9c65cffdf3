package account_test

import (
	"math"
	"math/big"
	"slices"
	"strconv"
	"strings"
	"testing"

	"cambist/account"
	"cambist/api"
)

// The model: accounts as the promises' words say them, one by one, in numbers without bounds.

// key is an owner as a text: names have no blank, which is ahead of all their signs, so keys stand in the accounts' order.
func key(who, asset string) string { return who + " " + asset }

// purse is what a key has.
type purse struct {
	balance, held *big.Int
}

func number(n int64) *big.Int { return big.NewInt(n) }

func purses(l []api.Account) map[string]purse {
	m := map[string]purse{}
	for _, a := range l {
		m[key(a.Who, a.Asset)] = purse{number(a.Balance), number(a.Held)}
	}
	return m
}

// accounts are the purses that have something, or owe something.
func accounts(m map[string]purse) []api.Account {
	var keys []string
	for k, p := range m {
		if p.balance.Sign() != 0 {
			keys = append(keys, k)
		}
	}
	slices.Sort(keys)
	var l []api.Account
	for _, k := range keys {
		who, asset, _ := strings.Cut(k, " ")
		l = append(l, acc(who, asset, m[k].balance.Int64(), m[k].held.Int64()))
	}
	return l
}

func modelPost(l []api.Account, g []api.Leg) answer {
	if len(g) == 0 || len(g) > 200 {
		return refused(api.ErrArg)
	}
	m, sums := purses(l), map[string]*big.Int{}
	for _, one := range g {
		k := key(one.Who, one.Asset)
		if sums[k] == nil {
			sums[k] = number(0)
		}
		sums[k].Add(sums[k], number(one.Amount))
	}
	var keys []string
	for k := range sums {
		keys = append(keys, k)
	}
	slices.Sort(keys)
	for _, k := range keys {
		p := purse{number(0), number(0)}
		if had, is := m[k]; is {
			p = had
		}
		p.balance = new(big.Int).Add(p.balance, sums[k])
		if !sums[k].IsInt64() || !p.balance.IsInt64() {
			return refused(api.ErrOver)
		}
		if !strings.HasPrefix(k, "world ") && p.balance.Cmp(p.held) < 0 {
			return refused(api.ErrFunds)
		}
		m[k] = p
	}
	return fine(accounts(m)...)
}

func modelHold(l []api.Account, who, asset string, n int64) answer {
	m := purses(l)
	p, is := m[key(who, asset)]
	switch {
	case n < 1 || who == "world":
		return refused(api.ErrArg)
	case !is || number(n).Cmp(new(big.Int).Sub(p.balance, p.held)) > 0:
		return refused(api.ErrFunds)
	}
	p.held.Add(p.held, number(n))
	return fine(accounts(m)...)
}

func modelFree(l []api.Account, who, asset string, n int64) answer {
	m := purses(l)
	p, is := m[key(who, asset)]
	switch {
	case n < 1 || who == "world":
		return refused(api.ErrArg)
	case !is || number(n).Cmp(p.held) > 0:
		return refused(api.ErrHeld)
	}
	p.held.Sub(p.held, number(n))
	return fine(accounts(m)...)
}

func modelFind(l []api.Account, who, asset string) answer {
	if p, is := purses(l)[key(who, asset)]; is {
		return fine(acc(who, asset, p.balance.Int64(), p.held.Int64()))
	}
	return fine(acc(who, asset, 0, 0))
}

func modelTotal(l []api.Account, asset string) answer {
	sum := number(0)
	for _, a := range l {
		if a.Asset == asset {
			sum.Add(sum, number(a.Balance))
		}
	}
	if !sum.IsInt64() {
		return refused(api.ErrOver)
	}
	return answer{n: sum.Int64()}
}

func modelCheck(l []api.Account) answer {
	for i, a := range l {
		may := a.Balance != 0 && a.Held == 0 || a.Who != "world" && 0 < a.Held && a.Held <= a.Balance
		if a.Who != "world" && a.Balance < 0 || !may || i > 0 && key(l[i-1].Who, l[i-1].Asset) >= key(a.Who, a.Asset) {
			return refused(api.ErrBook)
		}
	}
	return answer{}
}

// mixer gives numbers in no plain order, the same ones in each run.
type mixer uint64

func (x *mixer) upTo(n int) int {
	*x = *x*6364136223846793005 + 1442695040888963407
	return int(uint64(*x)>>33) % n
}

func (x *mixer) who() string { return strings.Fields("a ann bob world x9 zoe")[x.upTo(6)] }

func (x *mixer) asset() string { return strings.Fields("A USD XYZ")[x.upTo(3)] }

// amount is any one: mostly a little one, now and then one near a bound.
func (x *mixer) amount(wide bool) int64 {
	if !wide || x.upTo(3) > 0 {
		return int64(x.upTo(41) - 20)
	}
	near := []int64{most, most - 1, least, least + 1, most / 2, least / 2, most/2 + 1, 1 << 40}
	return near[x.upTo(len(near))]
}

func (x *mixer) legs(wide bool) []api.Leg {
	var l []api.Leg
	for range x.upTo(9) {
		l = append(l, leg(x.who(), x.asset(), x.amount(wide)))
	}
	return l
}

// balanced are legs whose amounts of each asset sum to 0.
func (x *mixer) balanced() []api.Leg {
	l, left := []api.Leg{}, map[string]int64{}
	for range 1 + x.upTo(6) {
		one := leg(x.who(), x.asset(), x.amount(false))
		left[one.Asset] -= one.Amount
		l = append(l, one)
	}
	for _, asset := range []string{"A", "USD", "XYZ"} {
		l = append(l, leg(x.who(), asset, left[asset]))
	}
	return l
}

// totals are all assets' totals, as far as they are numbers of 64 bits.
func totals(l []api.Account) [3]int64 {
	var sums [3]int64
	for i, asset := range []string{"A", "USD", "XYZ"} {
		sums[i], _ = account.Total(l, asset)
	}
	return sums
}

// all asks all calls of accounts that may be, and holds them against the model; next are the accounts of one of them.
func (x *mixer) all(t *testing.T, l []api.Account, wide bool) []api.Account {
	t.Helper()
	who, asset, n, g := x.who(), x.asset(), x.amount(wide), x.legs(wide)
	got := []answer{post(t, l, g), hold(t, l, who, asset, n), free(t, l, who, asset, n)}
	is(t, "Post", got[0], modelPost(l, g))
	is(t, "Hold", got[1], modelHold(l, who, asset, n))
	is(t, "Free", got[2], modelFree(l, who, asset, n))
	is(t, "Find", find(t, l, who, asset), modelFind(l, who, asset))
	is(t, "Total", total(t, l, asset), modelTotal(l, asset))
	next := l
	for _, a := range got {
		is(t, "Check", check(t, a.l), answer{})
		if a.e == api.OK && x.upTo(2) == 0 {
			next = a.l
		}
	}
	return next
}

// P11.2 to P11.5: whatever is asked of accounts that may be, they tell what the model tells, and what they become may be.
func TestAccountsInUse(t *testing.T) {
	told := map[api.Errno]int{}
	for seed := range 300 {
		x := mixer(seed)
		var l []api.Account
		for i := range 60 {
			l = x.all(t, l, seed%3 == 0)
			g := x.legs(true)
			is(t, "Post of any", post(t, l, g), modelPost(l, g))
			told[modelPost(l, g).e]++
			if t.Failed() {
				t.Fatalf("seed %d, step %d: %v", seed, i, l)
			}
		}
	}
	if told[api.OK] < 100 || told[api.ErrOver] < 100 || told[api.ErrFunds] < 100 {
		t.Errorf("told %v", told)
	}
}

// P11.5: legs that sum to 0 change no total.
func TestTotalsStay(t *testing.T) {
	posted := 0
	for seed := range 200 {
		x := mixer(seed)
		l, want := []api.Account{}, [3]int64{}
		if seed%2 == 0 { // totals of any height
			l = post(t, nil, legs(leg("ann", "A", 700), leg("bob", "USD", 30), leg("world", "XYZ", -9))).l
			want = [3]int64{700, 30, -9}
		}
		for range 60 {
			next := post(t, l, x.balanced())
			if next.e == api.OK {
				l = next.l
				posted++
			}
			if got := totals(l); got != want {
				t.Fatalf("seed %d: totals %v, want %v", seed, got, want)
			}
		}
	}
	if posted < 1000 {
		t.Errorf("%d are posted", posted)
	}
}

// P11.5: what was held and freed is as it was, in parts, or at once; other accounts do not change.
func TestHeldAndFreed(t *testing.T) {
	l := book()
	for _, a := range l {
		if a.Who == api.World || a.Balance == a.Held {
			continue
		}
		room := a.Balance - a.Held
		for _, n := range []int64{1, 2, room / 2, room - 1, room} {
			held := hold(t, l, a.Who, a.Asset, n)
			is(t, "Free", free(t, held.l, a.Who, a.Asset, n), fine(l...))
			if n > 1 {
				part := free(t, held.l, a.Who, a.Asset, 1)
				is(t, "Free of the rest", free(t, part.l, a.Who, a.Asset, n-1), fine(l...))
				is(t, "Hold again", hold(t, part.l, a.Who, a.Asset, 1), held)
			}
		}
	}
}

// P11.3: neither the legs' order, nor how an amount is parted among them, matters.
func TestLegsInAnyOrder(t *testing.T) {
	for seed := range 500 {
		x := mixer(seed)
		l := post(t, nil, x.balanced()).l
		g := x.legs(seed%2 == 0)
		want := post(t, l, g)
		for range 5 {
			for i := range g {
				j := i + x.upTo(len(g)-i)
				g[i], g[j] = g[j], g[i]
			}
			is(t, "Post in another order", post(t, l, g), want)
		}
		var halves []api.Leg
		for _, one := range g {
			halves = append(halves, leg(one.Who, one.Asset, one.Amount/2), leg(one.Who, one.Asset, one.Amount-one.Amount/2))
		}
		is(t, "Post of halves", post(t, l, halves), want)
		if t.Failed() {
			t.Fatalf("seed %d: %v, %v", seed, l, g)
		}
	}
}

// any are accounts of any kind: most lists of them may not be.
func (x *mixer) any() []api.Account {
	names := strings.Split("a,ann,bob,world,zoe,,Ann", ",")
	assets := strings.Split("A,USD,USD,,u", ",")
	amounts := []int64{0, 1, 5, -1, -5, 6, most, least}
	var l []api.Account
	for range x.upTo(5) {
		l = append(l, acc(names[x.upTo(7)], assets[x.upTo(5)], amounts[x.upTo(8)], amounts[x.upTo(8)]))
	}
	if x.upTo(2) == 0 {
		slices.SortStableFunc(l, func(a, b api.Account) int { return strings.Compare(key(a.Who, a.Asset), key(b.Who, b.Asset)) })
	}
	return l
}

// R1, R4, R5: accounts that may not be are told some answer, always the same one, and nothing panics; what is handed in is not changed.
func TestAnyAccounts(t *testing.T) {
	for seed := range 20000 {
		x := mixer(seed)
		l := x.any()
		g := append(x.legs(true), leg("ann", "USD", x.amount(true)), leg("zoe", "A", x.amount(true)), leg("c", "C", 1), leg("d", "D", 1))
		post(t, l, g)
		for range 3 {
			who, asset, n := x.who(), x.asset(), x.amount(true)
			hold(t, l, who, asset, n)
			free(t, l, who, asset, n)
			find(t, l, who, asset)
			total(t, l, asset)
		}
		check(t, l)
		if t.Failed() {
			t.Fatalf("seed %d: %v, %v", seed, l, g)
		}
	}
}

// P11.1: all lists of two accounts, of some names and numbers.
func TestCheckOfAllSmallLists(t *testing.T) {
	var one []api.Account
	for _, who := range []string{"ann", "bob", "world"} {
		for _, asset := range []string{"A", "B"} {
			for _, balance := range []int64{least, -1, 0, 1, 2, most} {
				for _, held := range []int64{least, -1, 0, 1, 2, math.MaxInt64} {
					one = append(one, acc(who, asset, balance, held))
				}
			}
		}
	}
	for _, a := range one {
		is(t, "Check", refused(account.Check(list(a))), modelCheck(list(a)))
		for _, b := range one {
			is(t, "Check of two", refused(account.Check(list(a, b))), modelCheck(list(a, b)))
		}
	}
}

// A book with many accounts: each one is found, and legs of many change just theirs.
func TestManyAccounts(t *testing.T) {
	var l []api.Account
	for i := range 3000 {
		l = append(l, acc("p"+strconv.Itoa(10000+i), "USD", int64(i+1), 0))
	}
	is(t, "Check", refused(account.Check(l)), answer{})
	var g []api.Leg
	want := slices.Clone(l)
	for i := range 200 {
		g = append(g, leg(l[i*15].Who, "USD", 1))
		want[i*15].Balance++
	}
	slices.Reverse(g)
	is(t, "Post", post(t, l, g), fine(want...))
	for i, a := range l {
		if i%100 == 0 {
			is(t, "Find", fine(account.Find(l, a.Who, "USD")), fine(a))
		}
	}
}
