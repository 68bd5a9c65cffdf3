package coin

import (
	"math/big"
	"slices"
	"strconv"
	"strings"
	"testing"

	"cambist/api"
)

const (
	most  = 1<<63 - 1
	least = -1 << 63
)

// edges are amounts near each place where a number's form, or its bounds, change.
func edges() []int64 {
	l := []int64{least, least + 1, least + 2, most - 2, most - 1, most, 3037000499, 3037000500, -3037000499, -3037000500, 3, -3, 7, -7, 6148914691236517205}
	for i := range 63 {
		n := int64(1) << i
		l = append(l, n-1, n, n+1, -n-1, -n, -n+1)
	}
	slices.Sort(l)
	return slices.Compact(l)
}

// answer is what a promise asks for a number: it, or that it lies beyond.
func answer(n *big.Int) (int64, api.Errno) {
	if !n.IsInt64() {
		return 0, api.ErrOver
	}
	return n.Int64(), api.OK
}

// P1.1: sums, differences and products at the edges that the chapter names.
func TestTwoAmounts(t *testing.T) {
	for _, c := range []struct {
		name string
		do   func(a, b int64) (int64, api.Errno)
		a, b int64
		want int64
		e    api.Errno
	}{
		{"Add", Add, 2, 3, 5, api.OK},
		{"Add", Add, 0, 0, 0, api.OK},
		{"Add", Add, most, 0, most, api.OK},
		{"Add", Add, most, 1, 0, api.ErrOver},
		{"Add", Add, most, most, 0, api.ErrOver},
		{"Add", Add, most, least, -1, api.OK},
		{"Add", Add, least, 0, least, api.OK},
		{"Add", Add, least, -1, 0, api.ErrOver},
		{"Add", Add, least, least, 0, api.ErrOver},
		{"Add", Add, 1, -1, 0, api.OK},
		{"Sub", Sub, 3, 5, -2, api.OK},
		{"Sub", Sub, 0, least, 0, api.ErrOver},
		{"Sub", Sub, -1, least, most, api.OK},
		{"Sub", Sub, least, least, 0, api.OK},
		{"Sub", Sub, least, 1, 0, api.ErrOver},
		{"Sub", Sub, least, 0, least, api.OK},
		{"Sub", Sub, most, -1, 0, api.ErrOver},
		{"Sub", Sub, most, least, 0, api.ErrOver},
		{"Sub", Sub, least, most, 0, api.ErrOver},
		{"Sub", Sub, 0, most, -most, api.OK},
		{"Mul", Mul, 6, 7, 42, api.OK},
		{"Mul", Mul, -3, -4, 12, api.OK},
		{"Mul", Mul, -3, 4, -12, api.OK},
		{"Mul", Mul, 0, least, 0, api.OK},
		{"Mul", Mul, least, 0, 0, api.OK},
		{"Mul", Mul, least, 1, least, api.OK},
		{"Mul", Mul, 1, least, least, api.OK},
		{"Mul", Mul, least, -1, 0, api.ErrOver},
		{"Mul", Mul, -1, least, 0, api.ErrOver},
		{"Mul", Mul, least, least, 0, api.ErrOver},
		{"Mul", Mul, most, -1, -most, api.OK},
		{"Mul", Mul, most, most, 0, api.ErrOver},
		{"Mul", Mul, most, 2, 0, api.ErrOver},
		{"Mul", Mul, most, -2, 0, api.ErrOver},
		{"Mul", Mul, 1 << 32, 1 << 31, 0, api.ErrOver},
		{"Mul", Mul, 1 << 32, -1 << 31, least, api.OK},
		{"Mul", Mul, -1 << 32, -1 << 31, 0, api.ErrOver},
		{"Mul", Mul, 1 << 32, 1 << 32, 0, api.ErrOver},
	} {
		if n, e := c.do(c.a, c.b); n != c.want || e != c.e {
			t.Errorf("%s(%d, %d) = %d, %d; want %d, %d", c.name, c.a, c.b, n, int(e), c.want, int(c.e))
		}
	}
}

// P1.1, P1.2: all pairs of edges, held against numbers without bounds.
func TestTwoAmountsAtAllEdges(t *testing.T) {
	sumOfTwo := func(a, b int64) (int64, api.Errno) { return Sum(a, b) }
	for _, c := range []struct {
		name string
		do   func(a, b int64) (int64, api.Errno)
		big  func(z, a, b *big.Int) *big.Int
	}{
		{"Add", Add, (*big.Int).Add},
		{"Sub", Sub, (*big.Int).Sub},
		{"Mul", Mul, (*big.Int).Mul},
		{"Sum", sumOfTwo, (*big.Int).Add},
	} {
		for _, a := range edges() {
			for _, b := range edges() {
				want, we := answer(c.big(new(big.Int), big.NewInt(a), big.NewInt(b)))
				if n, e := c.do(a, b); n != want || e != we {
					t.Fatalf("%s(%d, %d) = %d, %d; want %d, %d", c.name, a, b, n, int(e), want, int(we))
				}
			}
		}
	}
}

// orders calls what is asked with each order of a list's parts.
func orders(l []int64, ask func(l []int64)) {
	var turn func(k int)
	turn = func(k int) {
		if k == len(l) {
			ask(l)
			return
		}
		for i := k; i < len(l); i++ {
			l[k], l[i] = l[i], l[k]
			turn(k + 1)
			l[k], l[i] = l[i], l[k]
		}
	}
	turn(0)
}

// P1.2, P1.4: sums in each order of their parts, with the error too.
func TestSumInEachOrder(t *testing.T) {
	for _, c := range []struct {
		l    []int64
		want int64
		e    api.Errno
	}{
		{nil, 0, api.OK},
		{[]int64{}, 0, api.OK},
		{[]int64{0}, 0, api.OK},
		{[]int64{most}, most, api.OK},
		{[]int64{least}, least, api.OK},
		{[]int64{-1, -2, 7}, 4, api.OK},
		{[]int64{most, 5, -5}, most, api.OK},
		{[]int64{least, -1, 1}, least, api.OK},
		{[]int64{most, 1}, 0, api.ErrOver},
		{[]int64{least, -1}, 0, api.ErrOver},
		{[]int64{most, 5, -4}, 0, api.ErrOver},
		{[]int64{least, -5, 4}, 0, api.ErrOver},
		{[]int64{most, most, least, least, 2}, 0, api.OK},
		{[]int64{most, most, most, least, least, 2}, most, api.OK},
		{[]int64{most, most, least, least, least, 2}, least, api.OK},
		{[]int64{most, most, most, least, least, 3}, 0, api.ErrOver},
		{[]int64{most, most, least, least, least, 1}, 0, api.ErrOver},
		{[]int64{most, most, 2}, 0, api.ErrOver},
		{[]int64{least, least}, 0, api.ErrOver},
		{[]int64{least, least, least, least}, 0, api.ErrOver},
	} {
		orders(slices.Clone(c.l), func(l []int64) {
			if n, e := Sum(l...); n != c.want || e != c.e {
				t.Errorf("Sum(%v) = %d, %d; want %d, %d", l, n, int(e), c.want, int(c.e))
			}
		})
	}
}

// P1.2: a sum whose parts' sums go far beyond, there and back.
func TestSumOfMany(t *testing.T) {
	const times = 100000
	var l []int64
	for range times {
		l = append(l, most)
	}
	if n, e := Sum(l...); n != 0 || e != api.ErrOver {
		t.Errorf("up: %d, %d", n, int(e))
	}
	for range times {
		l = append(l, least)
	}
	if n, e := Sum(l...); n != -times || e != api.OK {
		t.Errorf("up and down: %d, %d", n, int(e))
	}
	slices.Reverse(l)
	if n, e := Sum(l...); n != -times || e != api.OK {
		t.Errorf("down and up: %d, %d", n, int(e))
	}
	if n, e := Sum(l[:times]...); n != 0 || e != api.ErrOver {
		t.Errorf("down: %d, %d", n, int(e))
	}
}

// R4, of P1.2: what is handed in is not changed, its spare room neither.
func TestSumLeavesItsParts(t *testing.T) {
	l := []int64{5, most, -5, 77}
	if n, e := Sum(l[:3]...); n != most || e != api.OK {
		t.Errorf("%d, %d", n, int(e))
	}
	if !slices.Equal(l, []int64{5, most, -5, 77}) {
		t.Errorf("changed: %v", l)
	}
}

// P1.3: texts of amounts.
func TestText(t *testing.T) {
	for _, c := range []struct {
		n    int64
		want string
	}{
		{0, "0"}, {7, "7"}, {-7, "-7"}, {10, "10"}, {-120, "-120"}, {1000, "1000"}, {99, "99"}, {100, "100"},
		{most, "9223372036854775807"}, {least, "-9223372036854775808"},
	} {
		if s := Text(c.n); s != c.want {
			t.Errorf("Text(%d) = %q; want %q", c.n, s, c.want)
		}
		if n, e := Parse(c.want); n != c.n || e != api.OK {
			t.Errorf("Parse(%q) = %d, %d", c.want, n, int(e))
		}
	}
}

// P1.4: texts are parsed as their amounts.
func TestParseOfText(t *testing.T) {
	for _, a := range edges() {
		if s := Text(a); s != big.NewInt(a).String() {
			t.Errorf("Text(%d) = %q", a, s)
		}
		if n, e := Parse(Text(a)); n != a || e != api.OK {
			t.Errorf("Parse(Text(%d)) = %d, %d", a, n, int(e))
		}
	}
}

// P1.3: texts that are no amount's.
func TestParseRefuses(t *testing.T) {
	wrong := []string{
		"", "-", "+", "-0", "+0", "00", "-00", "07", "-07", "000000000000000000001", "+1", "--1", "-+1", "1-", "+-1",
		" ", " 1", "1 ", "- 1", "1 2", "\t1", "1\n", "1\x00", "\x001", "x", "1x", "x1", "0x1", "0b1", "0o7", "1e3", "1.0", "1,000", "1_000", "_1", "1_",
		"/", ":", "-/", "-:", "1/", "1:", "\xff", "1\xff", "\u0661", "\uff11", "\u22121", "inf", "NaN",
		"9223372036854775808", "-9223372036854775809", "9223372036854775810", "9999999999999999999", "18446744073709551615", "18446744073709551616", "18446744073709551617", "-18446744073709551616", "-18446744073709551617",
		"10000000000000000000", "-10000000000000000000", strings.Repeat("9", 1000), "-" + strings.Repeat("1", 1000), strings.Repeat("0", 1000), strings.Repeat("0", 1000) + "1",
	}
	for _, s := range wrong {
		if n, e := Parse(s); n != 0 || e != api.ErrText {
			t.Errorf("Parse(%q) = %d, %d; want 0, ErrText", s, n, int(e))
		}
	}
}

// P1.3: every text of up to three signs of a few kinds is an amount's just if it is one's Text.
func TestParseOfAllShortTexts(t *testing.T) {
	amounts := map[string]int64{}
	for n := int64(-999); n <= 999; n++ {
		amounts[strconv.FormatInt(n, 10)] = n
	}
	signs := "-+0123456789 _./:a"
	texts := []string{""}
	for from := 0; from < len(texts); from++ {
		s := texts[from]
		want, is := amounts[s]
		n, e := Parse(s)
		if is && (n != want || e != api.OK) || !is && (n != 0 || e != api.ErrText) {
			t.Errorf("Parse(%q) = %d, %d", s, n, int(e))
		}
		if len(s) == 3 {
			continue
		}
		for i := range len(signs) {
			texts = append(texts, s+signs[i:i+1])
		}
	}
}

// The errors' numbers that the chapter names.
func TestErrorNumbers(t *testing.T) {
	if api.OK != 0 || api.ErrOver != 10 || api.ErrText != 11 {
		t.Errorf("%d, %d, %d", int(api.OK), int(api.ErrOver), int(api.ErrText))
	}
}
