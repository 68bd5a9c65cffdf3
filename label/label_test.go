package label

import (
	"fmt"
	"slices"
	"strings"
	"testing"

	"cambist/api"
)

const (
	smalls   = "abcdefghijklmnopqrstuvwxyz"
	capitals = "ABCDEFGHIJKLMNOPQRSTUVWXYZ"
	figures  = "0123456789"
	wordly   = smalls + capitals + figures + "-"
)

// P2.1: names and words, at each length that the chapter names, and wrong ones.
func TestNames(t *testing.T) {
	for _, c := range []struct {
		s                string
		who, asset, word bool
	}{
		{"a", true, false, true},
		{"ann7", true, false, true},
		{"world", true, false, true},
		{"abcdefgh", true, false, true},
		{"z9876543", true, false, true},
		{"abcdefghi", false, false, true},
		{"7ann", false, false, true},
		{"7", false, false, true},
		{"0", false, false, true},
		{"12345678", false, false, true},
		{"Ann", false, false, true},
		{"anN", false, false, true},
		{"a-b", false, false, true},
		{"A", false, true, true},
		{"USD", false, true, true},
		{"ABCDEF", false, true, true},
		{"ABCDEFG", false, false, true},
		{"US1", false, false, true},
		{"USd", false, false, true},
		{"uSD", false, false, true},
		{"XYZ-USD", false, false, true},
		{"-", false, false, true},
		{"--", false, false, true},
		{"R-1", false, false, true},
		{"-R", false, false, true},
		{"aB-012345678", false, false, true},
		{"------------", false, false, true},
		{"abcdefghijkl", false, false, true},
		{"ABCDEFGHIJKL", false, false, true},
		{"abcdefghijklm", false, false, false},
		{"ABCDEFGHIJKLM", false, false, false},
		{"", false, false, false},
		{" ", false, false, false},
		{"a b", false, false, false},
		{" a", false, false, false},
		{"a ", false, false, false},
		{"a|b", false, false, false},
		{"a}", false, false, false},
		{"a_b", false, false, false},
		{"a+b", false, false, false},
		{"a\n", false, false, false},
		{"a\x00", false, false, false},
		{"\x00", false, false, false},
		{"a\x80", false, false, false},
		{"A\xff", false, false, false},
		{"\xe1", false, false, false},
		{"ann\u00e9", false, false, false},
		{"\u0430nn", false, false, false},
		{"\uff21", false, false, false},
		{"a\u0661", false, false, false},
		{strings.Repeat("a", 1<<20), false, false, false},
		{strings.Repeat("A", 1<<20), false, false, false},
	} {
		if who, asset, word := Who(c.s), Asset(c.s), Word(c.s); who != c.who || asset != c.asset || word != c.word {
			t.Errorf("%.20q: Who %v, Asset %v, Word %v; want %v, %v, %v", c.s, who, asset, word, c.who, c.asset, c.word)
		}
	}
}

// P2.1: each of the 256 bytes, alone, first, in the middle and last.
func TestNamesByEachSign(t *testing.T) {
	for i := range 256 {
		sign := string([]byte{byte(i)})
		is := func(signs string) bool { return strings.Contains(signs, sign) }
		for _, c := range []struct {
			call    string
			s       string
			do      func(s string) bool
			allowed string
		}{
			{"Who", sign, Who, smalls},
			{"Who", sign + "bc", Who, smalls},
			{"Who", "a" + sign + "c", Who, smalls + figures},
			{"Who", "ab" + sign, Who, smalls + figures},
			{"Who", "abcdefg" + sign, Who, smalls + figures},
			{"Asset", sign, Asset, capitals},
			{"Asset", sign + "BC", Asset, capitals},
			{"Asset", "A" + sign + "C", Asset, capitals},
			{"Asset", "ABCDE" + sign, Asset, capitals},
			{"Word", sign, Word, wordly},
			{"Word", sign + "b", Word, wordly},
			{"Word", "a" + sign + "C", Word, wordly},
			{"Word", "abcdefghijk" + sign, Word, wordly},
		} {
			if got := c.do(c.s); got != is(c.allowed) {
				t.Errorf("%s(%q) = %v", c.call, c.s, got)
			}
		}
	}
}

// P2.1: lengths are counted in bytes: just 1 to 8, 1 to 6, 1 to 12.
func TestNamesByLength(t *testing.T) {
	for n := range 40 {
		if got := Who(strings.Repeat("q", n)); got != (n >= 1 && n <= 8) {
			t.Errorf("Who of %d: %v", n, got)
		}
		if got := Asset(strings.Repeat("Q", n)); got != (n >= 1 && n <= 6) {
			t.Errorf("Asset of %d: %v", n, got)
		}
		if got := Word(strings.Repeat("-", n)); got != (n >= 1 && n <= 12) {
			t.Errorf("Word of %d: %v", n, got)
		}
	}
}

// numbers are those near each place where a number's signs change, rising.
func numbers() []uint64 {
	l := []uint64{0, 1<<64 - 1, 1<<64 - 2, 255, 496, 0x0123456789abcdef, 0xfedcba9876543210, 10, 100, 1000000}
	for i := range 64 {
		n := uint64(1) << i
		l = append(l, n-1, n, n+1)
	}
	for i := range uint64(600) {
		l = append(l, i)
	}
	slices.Sort(l)
	return slices.Compact(l)
}

// P2.2: numbers in sixteens, and read again.
func TestDigits(t *testing.T) {
	for _, c := range []struct {
		n    uint64
		want string
	}{
		{0, "0000000000000000"},
		{1, "0000000000000001"},
		{9, "0000000000000009"},
		{10, "000000000000000a"},
		{15, "000000000000000f"},
		{16, "0000000000000010"},
		{255, "00000000000000ff"},
		{496, "00000000000001f0"},
		{0x0123456789abcdef, "0123456789abcdef"},
		{0xfedcba9876543210, "fedcba9876543210"},
		{1<<63 - 1, "7fffffffffffffff"},
		{1 << 63, "8000000000000000"},
		{1<<64 - 1, "ffffffffffffffff"},
	} {
		if s := Digits(c.n); s != c.want {
			t.Errorf("Digits(%d) = %q; want %q", c.n, s, c.want)
		}
		if n, e := Number(c.want); n != c.n || e != api.OK {
			t.Errorf("Number(%q) = %d, %d", c.want, n, int(e))
		}
	}
	for _, a := range numbers() {
		if s := Digits(a); s != fmt.Sprintf("%016x", a) {
			t.Errorf("Digits(%d) = %q", a, s)
		}
		if n, e := Number(Digits(a)); n != a || e != api.OK {
			t.Errorf("Number(Digits(%d)) = %d, %d", a, n, int(e))
		}
	}
}

// P2.2: texts that are no number's Digits.
func TestNumberRefuses(t *testing.T) {
	for _, s := range []string{
		"", "0", "ff", "00ff", "1", "000000000000000", "00000000000000ff0", "00000000000000000", "10000000000000000", "fffffffffffffff", "fffffffffffffffff",
		"00000000000000fF", "00000000000000FF", "FFFFFFFFFFFFFFFF", "000000000000000A", "ABCDEF0000000000",
		"00000000000000fg", "g000000000000000", "0x00000000000000", "0X000000000000ff", "0o00000000000000",
		"+000000000000000", "-000000000000000", "-000000000000001", "+0000000000000ff", " 000000000000000", "000000000000000 ", "0000000 00000000",
		"0000_0000_0000_0", "_000000000000000", "000000000000000_", "000000000000000.", "000000000000000\n", "000000000000000\x00", "\x00000000000000000",
		"000000000000000/", "000000000000000:", "000000000000000`", "000000000000000@", "000000000000000G", "000000000000000\xff", "\xb0000000000000000",
		"00000000000000\u0661", "0000000000000\uff11", strings.Repeat(" ", 16), strings.Repeat("0", 32), strings.Repeat("0", 1<<20),
	} {
		if n, e := Number(s); n != 0 || e != api.ErrKey {
			t.Errorf("Number(%.20q) = %d, %d; want 0, ErrKey", s, n, int(e))
		}
	}
}

// P2.2: each of the 256 bytes at each of the sixteen places.
func TestNumberByEachSign(t *testing.T) {
	for place := range 16 {
		for i := range 256 {
			b := []byte("0000000000000000")
			b[place] = byte(i)
			value := strings.IndexByte("0123456789abcdef", byte(i))
			n, e := Number(string(b))
			if value < 0 && (n != 0 || e != api.ErrKey) || value >= 0 && (n != uint64(value)<<(4*(15-place)) || e != api.OK) {
				t.Errorf("Number(%q) = %d, %d", b, n, int(e))
			}
		}
	}
}

// keyCase is a space and parts, and the key that they are (none: no text).
type keyCase struct {
	space byte
	parts []string
	key   string
}

// rightKeys are keys, at the edges that the chapter names.
func rightKeys() []keyCase {
	return []keyCase{
		{'b', []string{"ann", "USD"}, "b|ann|USD"},
		{'a', []string{"x"}, "a|x"},
		{'z', []string{"x"}, "z|x"},
		{'a', []string{"a", "b", "c", "d"}, "a|a|b|c|d"},
		{'a', []string{"a", "a", "a"}, "a|a|a|a"},
		{'m', []string{"XYZ-USD"}, "m|XYZ-USD"},
		{'e', []string{"00000000000000ff", "10003"}, "e|00000000000000ff|10003"},
		{'z', []string{"abcdefghijklmnop"}, "z|abcdefghijklmnop"},
		{'q', []string{"abcdefghijklmnop", "ABCDEFGHIJKLMNOP", "0123456789012345", "----------------"}, "q|abcdefghijklmnop|ABCDEFGHIJKLMNOP|0123456789012345|----------------"},
		{'s', []string{"-"}, "s|-"},
		{'s', []string{"0", "Z", "z"}, "s|0|Z|z"},
	}
}

// P2.3: keys are made of spaces and parts, and split into them again.
func TestKeyAndSplit(t *testing.T) {
	for _, c := range rightKeys() {
		if key, e := Key(c.space, c.parts...); key != c.key || e != api.OK {
			t.Errorf("Key(%q, %q) = %q, %d; want %q", c.space, c.parts, key, int(e), c.key)
		}
		if space, parts, e := Split(c.key); space != c.space || !slices.Equal(parts, c.parts) || e != api.OK {
			t.Errorf("Split(%q) = %q, %q, %d", c.key, space, parts, int(e))
		}
	}
}

// P2.3: spaces and parts that are no key.
func TestKeyRefuses(t *testing.T) {
	for _, c := range []struct {
		space byte
		parts []string
	}{
		{'b', nil},
		{'b', []string{}},
		{'b', []string{"a", "b", "c", "d", "e"}},
		{'b', make([]string, 100000)},
		{'b', []string{""}},
		{'b', []string{"", "a"}},
		{'b', []string{"a", ""}},
		{'b', []string{"a", "", "c"}},
		{'b', []string{"a", "b", "c", ""}},
		{'b', []string{"abcdefghijklmnopq"}},
		{'b', []string{"a", "b", "c", "abcdefghijklmnopq"}},
		{'b', []string{"abcdefghijklmnopq", "a"}},
		{'b', []string{strings.Repeat("a", 1<<20)}},
		{'b', []string{"a|b"}},
		{'b', []string{"|"}},
		{'b', []string{"}"}},
		{'b', []string{"a b"}},
		{'b', []string{"a", "b\n"}},
		{'b', []string{"a_b"}},
		{'b', []string{"a\x80"}},
		{'b', []string{"\u00e9"}},
		{'B', nil},
		{0, []string{"a", ""}},
	} {
		if key, e := Key(c.space, c.parts...); key != "" || e != api.ErrKey {
			t.Errorf("Key(%q, %.40q) = %q, %d; want ErrKey", c.space, c.parts, key, int(e))
		}
	}
}

// P2.3: each of the 256 bytes as a space, and as a part's sign at each place in it, for both calls.
func TestKeysByEachSign(t *testing.T) {
	hold := func(right bool, space byte, parts []string, key string) {
		t.Helper()
		made, e := Key(space, parts...)
		if right && (made != key || e != api.OK) || !right && (made != "" || e != api.ErrKey) {
			t.Errorf("Key(%q, %q) = %q, %d", space, parts, made, int(e))
		}
		gotSpace, got, e := Split(key)
		if right && (gotSpace != space || !slices.Equal(got, parts) || e != api.OK) || !right && (gotSpace != 0 || len(got) != 0 || e != api.ErrKey) {
			t.Errorf("Split(%q) = %q, %q, %d", key, gotSpace, got, int(e))
		}
	}
	for i := range 256 {
		sign := string([]byte{byte(i)})
		hold(strings.Contains(smalls, sign), byte(i), []string{"a", "B"}, sign+"|a|B")
		if sign == "|" {
			continue // a bar in a key's text begins a part: TestKeyRefuses and TestSplitRefuses have those
		}
		right := strings.Contains(wordly, sign)
		for _, part := range []string{sign, sign + "x", "x" + sign + "x", "abcdefghijklmno" + sign} {
			hold(right, 'k', []string{part}, "k|"+part)
			hold(right, 'k', []string{"a", "b", "c", part}, "k|a|b|c|"+part)
			hold(right, 'k', []string{part, "b", "c"}, "k|"+part+"|b|c")
		}
	}
}

// P2.3: lengths of parts, and how many there are.
func TestKeysByLength(t *testing.T) {
	for n := range 40 {
		for place := range 4 {
			parts := []string{"a", "b", "c", "d"}
			parts[place] = strings.Repeat("Q", n)
			text := "x|" + strings.Join(parts, "|")
			_, e := Key('x', parts...)
			_, _, f := Split(text)
			if right := n >= 1 && n <= 16; (e == api.OK) != right || (f == api.OK) != right {
				t.Errorf("a part of %d bytes: %d, %d", n, int(e), int(f))
			}
		}
		parts := slices.Repeat([]string{"a"}, n)
		_, e := Key('x', parts...)
		_, _, f := Split("x" + strings.Repeat("|a", n))
		if right := n >= 1 && n <= 4; (e == api.OK) != right || (f == api.OK) != right {
			t.Errorf("%d parts: %d, %d", n, int(e), int(f))
		}
	}
}

// P2.3: texts that are no key.
func TestSplitRefuses(t *testing.T) {
	for _, key := range []string{
		"", "b", "|", "||", "b|", "b||", "|a", "|a|b", "a", "ab", "ann", "bann", "B|a", "1|a", "-|a", "{|a", "`|a", "bb|a", " b|a", "b |a",
		"b|a|", "b|ann|USD|", "b||a", "b|a||c", "b|a|b||", "b|a|b|c|", "b|a|b|c|d|", "b|a|b|c|d|e", "b|a|b|c||d", "b|a|b|c|d||", "b|a|b|c|d|e|f", "b|a|b|c|d|e|f|g",
		"b|a b", "b| a", "b|a ", "b|a\n", "b|a}", "b}a", "b}", "b|a|b}", "b|a\x00", "b\x00|a", "b|\xff", "\xe2|a", "b|\u00e9", "\u0430|a", "b\u00a6a", "b-a", "b/a",
		"b|abcdefghijklmnopq", "b|a|b|c|abcdefghijklmnopq",
		strings.Repeat("b", 1<<20), strings.Repeat("|", 1<<20), "b" + strings.Repeat("|a", 1<<20), "b|" + strings.Repeat("a", 1<<20),
	} {
		if space, parts, e := Split(key); space != 0 || len(parts) != 0 || e != api.ErrKey {
			t.Errorf("Split(%.20q) = %q, %.40q, %d; want ErrKey", key, space, parts, int(e))
		}
	}
}

// P2.3: every short text of a few signs is a key just if Key makes it of some space and parts.
func TestSplitOfAllShortTexts(t *testing.T) {
	signs := "aZ|-}"
	keys := map[string]bool{}
	var words []string
	for _, a := range []string{"a", "Z", "-"} {
		words = append(words, a)
		for _, b := range []string{"a", "Z", "-"} {
			words = append(words, a+b)
			for _, c := range []string{"a", "Z", "-"} {
				words = append(words, a+b+c, a+b+c+"a", a+b+c+"Z", a+b+c+"-")
			}
		}
	}
	for _, a := range words {
		if key, e := Key('a', a); e == api.OK {
			keys[key] = true
		}
		for _, b := range words {
			if key, e := Key('a', a, b); e == api.OK && len(key) <= 6 {
				keys[key] = true
			}
		}
	}
	texts := []string{""}
	for from := 0; from < len(texts); from++ {
		s := texts[from]
		space, parts, e := Split(s)
		if (e == api.OK) != keys[s] {
			t.Errorf("Split(%q) = %q, %q, %d", s, space, parts, int(e))
		}
		if len(s) == 6 {
			continue
		}
		for i := range len(signs) {
			texts = append(texts, s+signs[i:i+1])
		}
	}
}

// R4, of P2.3: what is handed in is not changed, its spare room neither; two answers share nothing.
func TestKeysLeaveTheirParts(t *testing.T) {
	l := []string{"ann", "USD", "spare"}
	if key, e := Key('b', l[:2]...); key != "b|ann|USD" || e != api.OK {
		t.Errorf("%q, %d", key, int(e))
	}
	if !slices.Equal(l, []string{"ann", "USD", "spare"}) {
		t.Errorf("changed: %q", l)
	}
	_, one, _ := Split("b|ann|USD")
	_, other, _ := Split("b|ann|USD")
	one = append(one, "more")
	one[0] = "eve"
	if !slices.Equal(other, []string{"ann", "USD"}) {
		t.Errorf("shared: %q", other)
	}
}

// P2.4: the sign behind the bar, behind any text.
func TestEnd(t *testing.T) {
	for _, key := range []string{"b|ann|USD", "a|x", "", "|", "}", "b|", "no key", "\x00\xff", strings.Repeat("a", 1000)} {
		if got := End(key); got != key+"\x7d" {
			t.Errorf("End(%.20q) = %.20q", key, got)
		}
	}
	if bar[0]+1 != behind[0] {
		t.Errorf("%q does not follow %q", behind, bar)
	}
}

// P2.5: Digits stand in the numbers' order.
func TestDigitsRise(t *testing.T) {
	l := numbers()
	for i := 1; i < len(l); i++ {
		if a, b := Digits(l[i-1]), Digits(l[i]); a >= b {
			t.Errorf("%d, %d: %q, %q", l[i-1], l[i], a, b)
		}
	}
}

// P2.5: of two keys one stands between the other one, and a bar, and its End, just if it has its parts, and more.
func TestKeysBetween(t *testing.T) {
	parts := []string{"-", "0", "A", "Z", "a", "z", "a-", "aa", "zz", "zzzzzzzzzzzzzzzz"}
	all := []keyCase{}
	for _, space := range []byte{'a', 'b', 'z'} {
		for _, a := range parts {
			all = append(all, keyCase{space: space, parts: []string{a}})
			for _, b := range parts {
				all = append(all, keyCase{space: space, parts: []string{a, b}}, keyCase{space: space, parts: []string{a, b, "z"}}, keyCase{space: space, parts: []string{a, b, "-", "z"}})
			}
		}
	}
	for i := range all {
		key, e := Key(all[i].space, all[i].parts...)
		if e != api.OK {
			t.Fatalf("%q: %d", all[i].parts, int(e))
		}
		all[i].key = key
	}
	for _, a := range all {
		for _, b := range all {
			more := a.space == b.space && len(b.parts) > len(a.parts) && slices.Equal(b.parts[:len(a.parts)], a.parts)
			if between := a.key+"|" < b.key && b.key < End(a.key); between != more {
				t.Errorf("%q of %q: between %v, with more parts %v", b.key, a.key, between, more)
			}
		}
	}
}

// The error's number that the chapter names.
func TestErrorNumber(t *testing.T) {
	if api.OK != 0 || api.ErrKey != 20 {
		t.Errorf("%d, %d", int(api.OK), int(api.ErrKey))
	}
}
