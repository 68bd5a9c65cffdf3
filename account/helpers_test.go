package account_test

import (
	"slices"
	"testing"

	"cambist/account"
	"cambist/api"
)

const (
	most  = 1<<63 - 1
	least = -1 << 63
)

// answer is all that a call may tell: what a call does not tell is empty.
type answer struct {
	l []api.Account
	n int64
	e api.Errno
}

func same(a, b answer) bool { return slices.Equal(a.l, b.l) && a.n == b.n && a.e == b.e }

// is holds an answer against the one that is asked for.
func is(t *testing.T, what string, got, want answer) {
	t.Helper()
	if !same(got, want) {
		t.Errorf("%s = %v, %d, %d; want %v, %d, %d", what, got.l, got.n, int(got.e), want.l, want.n, int(want.e))
	}
}

// fine and refused are answers of accounts, and of an error.
func fine(l ...api.Account) answer { return answer{l: l} }
func refused(e api.Errno) answer   { return answer{e: e} }

func acc(who, asset string, balance, held int64) api.Account {
	return api.Account{Who: who, Asset: asset, Balance: balance, Held: held}
}

func leg(who, asset string, amount int64) api.Leg {
	return api.Leg{Who: who, Asset: asset, Amount: amount}
}

// list are accounts, and legs legs.
func list(l ...api.Account) []api.Account { return l }
func legs(l ...api.Leg) []api.Leg         { return l }

// roomy is a list with spare room behind it, in which something lies.
func roomy[T any](l []T, other T) []T {
	room := slices.Concat(l, []T{other, other, other})
	return room[:len(l)]
}

// whole is a list with its spare room.
func whole[T any](l []T) []T { return l[:cap(l)] }

// asked is what a call tells of accounts and legs: asked of lists with spare room, and of lists without, twice, and held against R2, R4 and R5: what is handed in is not changed, what is answered lies in memory of its own, and beside an error there is nothing else.
func asked(t *testing.T, what string, l []api.Account, g []api.Leg, ask func(l []api.Account, g []api.Leg) answer) answer {
	t.Helper()
	spoilt := acc("spoilt", "S", 7, 8)
	handed, given := roomy(l, acc("spare", "R", 1, 1)), roomy(g, leg("spare", "R", 1))
	was, had := slices.Clone(whole(handed)), slices.Clone(whole(given))
	got := ask(handed, given)
	told := answer{slices.Clone(got.l), got.n, got.e}
	for i := range whole(got.l) {
		whole(got.l)[i] = spoilt
	}
	if !slices.Equal(whole(handed), was) || !slices.Equal(whole(given), had) {
		t.Errorf("%s: what was handed in was changed, or is shared: %v, %v; now %v, %v", what, was, had, whole(handed), whole(given))
	}
	for range 2 {
		is(t, what+" again", ask(l, g), told)
	}
	if told.e != api.OK {
		is(t, what+", refused", told, refused(told.e))
	}
	return told
}

// check, find, post, hold, free and total are the calls, each held against the rules.
func check(t *testing.T, l []api.Account) answer {
	t.Helper()
	return asked(t, "Check", l, nil, func(l []api.Account, _ []api.Leg) answer { return refused(account.Check(l)) })
}

func find(t *testing.T, l []api.Account, who, asset string) answer {
	t.Helper()
	return asked(t, "Find", l, nil, func(l []api.Account, _ []api.Leg) answer { return fine(account.Find(l, who, asset)) })
}

func post(t *testing.T, l []api.Account, g []api.Leg) answer {
	t.Helper()
	return asked(t, "Post", l, g, func(l []api.Account, g []api.Leg) answer {
		next, e := account.Post(l, g)
		return answer{l: next, e: e}
	})
}

func hold(t *testing.T, l []api.Account, who, asset string, n int64) answer {
	t.Helper()
	return asked(t, "Hold", l, nil, func(l []api.Account, _ []api.Leg) answer {
		next, e := account.Hold(l, who, asset, n)
		return answer{l: next, e: e}
	})
}

func free(t *testing.T, l []api.Account, who, asset string, n int64) answer {
	t.Helper()
	return asked(t, "Free", l, nil, func(l []api.Account, _ []api.Leg) answer {
		next, e := account.Free(l, who, asset, n)
		return answer{l: next, e: e}
	})
}

func total(t *testing.T, l []api.Account, asset string) answer {
	t.Helper()
	return asked(t, "Total", l, nil, func(l []api.Account, _ []api.Leg) answer {
		n, e := account.Total(l, asset)
		return answer{n: n, e: e}
	})
}
