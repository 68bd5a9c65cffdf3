package journal_test

import (
	"slices"
	"testing"

	"cambist/api"
	"cambist/journal"
)

const (
	most    = 1<<63 - 1
	least   = -1 << 63
	highest = 1<<64 - 1
)

// answer is all that a call may tell: what a call does not tell is empty.
type answer struct {
	pairs   []api.Pair
	entries []api.Entry
	n       int64
	e       api.Errno
}

// sameEntry holds all of two entries against each other: no legs are no legs, nil or not.
func sameEntry(a, b api.Entry) bool {
	return a.Number == b.Number && a.Day == b.Day && a.Request == b.Request && slices.Equal(a.Legs, b.Legs)
}

func same(a, b answer) bool {
	return slices.Equal(a.pairs, b.pairs) && slices.EqualFunc(a.entries, b.entries, sameEntry) && a.n == b.n && a.e == b.e
}

// is holds an answer against the one that is asked for.
func is(t *testing.T, what string, got, want answer) {
	t.Helper()
	if !same(got, want) {
		t.Errorf("%s = %v, %v, %d, %d; want %v, %v, %d, %d", what, got.pairs, got.entries, got.n, int(got.e), want.pairs, want.entries, want.n, int(want.e))
	}
}

// told, listed, summed and refused are answers of pairs, of entries, of an amount, and of an error.
func told(l ...api.Pair) answer    { return answer{pairs: l} }
func listed(l ...api.Entry) answer { return answer{entries: l} }
func summed(n int64) answer        { return answer{n: n} }
func refused(e api.Errno) answer   { return answer{e: e} }

func leg(who, asset string, amount int64) api.Leg {
	return api.Leg{Who: who, Asset: asset, Amount: amount}
}

func entry(number, day uint64, request string, legs ...api.Leg) api.Entry {
	return api.Entry{Number: number, Day: day, Request: request, Legs: legs}
}

// entries and list are lists of entries, and of pairs.
func entries(l ...api.Entry) []api.Entry { return l }
func list(l ...api.Pair) []api.Pair      { return l }

// roomy is a list with spare room behind it, in which something lies.
func roomy[T any](l []T, other T) []T {
	room := slices.Concat(l, []T{other, other, other})
	return room[:len(l)]
}

// whole is a list with its spare room.
func whole[T any](l []T) []T { return l[:cap(l)] }

// fill lays something all over a list, and its spare room.
func fill[T any](l []T, other T) {
	for i := range whole(l) {
		whole(l)[i] = other
	}
}

// filled tells whether fill was the last that was done to a list.
func filled[T comparable](l []T, other T) bool {
	return !slices.ContainsFunc(whole(l), func(x T) bool { return x != other })
}

func spareLeg() api.Leg     { return leg("spare", "R", 1) }
func sparePair() api.Pair   { return api.Pair{Key: "spare", Val: "R"} }
func spareEntry() api.Entry { return entry(9, 9, "spare", spareLeg(), spareLeg()) }

// deep are entries in memory of their own, the legs' too, each list with spare room.
func deep(l []api.Entry) []api.Entry {
	all := roomy(l, spareEntry())
	for i := range all {
		all[i].Legs = roomy(all[i].Legs, spareLeg())
	}
	return all
}

// unchanged tells whether entries that deep made are still those, with what lies in their spare room.
func unchanged(now, was []api.Entry) bool {
	fresh := deep(was)
	return len(now) == len(was) && slices.EqualFunc(whole(now), whole(fresh), func(a, b api.Entry) bool {
		return sameEntry(a, b) && slices.Equal(whole(a.Legs), whole(b.Legs))
	})
}

// repeated holds what a call tells when it is asked again, with lists without spare room, against R2 and R5.
func repeated(t *testing.T, what string, first answer, again func() answer) answer {
	t.Helper()
	for range 2 {
		is(t, what+" again", again(), first)
	}
	if first.e != api.OK {
		is(t, what+", refused", first, refused(first.e))
	}
	return first
}

// of is what a call tells of entries, held against the rules: what is handed in is not changed, nor shared with what is answered.
func of(t *testing.T, what string, l []api.Entry, ask func(l []api.Entry) answer) answer {
	t.Helper()
	handed := deep(l)
	got := ask(handed)
	first := answer{pairs: slices.Clone(got.pairs), n: got.n, e: got.e}
	fill(got.pairs, sparePair())
	if !unchanged(handed, l) {
		t.Errorf("%s: what was handed in was changed: %v; now %v", what, l, handed)
	}
	return repeated(t, what, first, func() answer { return ask(l) })
}

// check, pairs, read and sum are the calls, each held against the rules.
func check(t *testing.T, e api.Entry) answer {
	t.Helper()
	return of(t, "Check", entries(e), func(l []api.Entry) answer { return refused(journal.Check(l[0])) })
}

func pairs(t *testing.T, e api.Entry) answer {
	t.Helper()
	return of(t, "Pairs", entries(e), func(l []api.Entry) answer {
		got, no := journal.Pairs(l[0])
		return answer{pairs: got, e: no}
	})
}

func sum(t *testing.T, l []api.Entry, who, asset string, from, to uint64) answer {
	t.Helper()
	return of(t, "Sum", l, func(l []api.Entry) answer {
		n, no := journal.Sum(l, who, asset, from, to)
		return answer{n: n, e: no}
	})
}

// mark is a leg that tells one list from another one.
func mark(i int) api.Leg { return leg("mark", "M", int64(i)) }

func read(t *testing.T, l []api.Pair) answer {
	t.Helper()
	ask := func(l []api.Pair) answer {
		got, no := journal.Read(l)
		return answer{entries: got, e: no}
	}
	handed := roomy(l, sparePair())
	got := ask(handed)
	first := answer{entries: slices.Clone(got.entries), e: got.e}
	for i, e := range got.entries {
		first.entries[i].Legs = slices.Clone(e.Legs)
		fill(e.Legs, mark(i))
	}
	for i, e := range got.entries {
		if !filled(e.Legs, mark(i)) {
			t.Errorf("Read: the legs of entry %d share memory with others", i)
		}
	}
	fill(got.entries, spareEntry())
	if !slices.Equal(whole(handed), whole(roomy(l, sparePair()))) {
		t.Errorf("Read: what was handed in was changed: %v; now %v", l, handed)
	}
	return repeated(t, "Read", first, func() answer { return ask(l) })
}
