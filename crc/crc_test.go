package crc

import (
	"bytes"
	"hash/crc64"
	"slices"
	"testing"
)

const (
	all    = 1<<64 - 1          // each bit
	digits = 0x995DC9BBDF1939FA // the chapter's sum of 123456789
)

// bitByBit is More as the promise's words say it, one bit after the other.
func bitByBit(sum uint64, b []byte) uint64 {
	n := sum ^ all
	for _, x := range b {
		n ^= uint64(x)
		for range 8 {
			out := n & 1
			n >>= 1
			if out == 1 {
				n ^= 0xC96C5795D7870F42
			}
		}
	}
	return n ^ all
}

// sums are numbers to go on from: none, all bits, each bit alone, each bit missing, and others.
func sums() []uint64 {
	l := []uint64{0, all, digits, digits ^ all, 0xC96C5795D7870F42, 0x0123456789ABCDEF, 0xFEDCBA9876543210}
	for i := range 64 {
		l = append(l, 1<<i, all^1<<i)
	}
	return l
}

// mixed are n bytes of many values, in no plain order.
func mixed(n int) []byte {
	b := make([]byte, n)
	x := uint32(1)
	for i := range b {
		x = x*1664525 + 1013904223
		b[i] = byte(x >> 24)
	}
	return b
}

// texts are bytes of several lengths and makes.
func texts() [][]byte {
	l := [][]byte{nil, {}, []byte("123456789"), []byte("ab|c\x00\xff\n")}
	for _, n := range []int{1, 2, 3, 7, 8, 9, 15, 16, 17, 63, 64, 65, 255, 256, 257, 512} {
		l = append(l, make([]byte, n), bytes.Repeat([]byte{255}, n), mixed(n))
	}
	return l
}

// P3.1: the chapter's examples, and other sums that are known.
func TestExamples(t *testing.T) {
	for _, c := range []struct {
		text string
		want uint64
	}{
		{"", 0},
		{"123456789", digits},
		{"a", 0x330284772E652B05},
		{"abc", 0x2CD8094A1A277627},
		{"\x00", 0x1FADA17364673F59},
		{"\xff", 0xFF00000000000000},
		{"\x00\x00\x00\x00\x00\x00\x00\x00", 0xB66A73654282CAC0},
		{"\xff\xff\xff\xff\xff\xff\xff\xff", all},
	} {
		if got := Sum([]byte(c.text)); got != c.want {
			t.Errorf("Sum(%q) = %016X; want %016X", c.text, got, c.want)
		}
	}
	if got := More(Sum([]byte("1234")), []byte("56789")); got != digits {
		t.Errorf("by parts: %016X", got)
	}
}

// P3.1: behind no bytes a sum is what it was.
func TestNoBytes(t *testing.T) {
	for _, none := range [][]byte{nil, {}, make([]byte, 0, 8), mixed(8)[3:3]} {
		if got := Sum(none); got != 0 {
			t.Errorf("Sum of none = %016X", got)
		}
		for _, sum := range sums() {
			if got := More(sum, none); got != sum {
				t.Errorf("More(%016X, none) = %016X", sum, got)
			}
		}
	}
}

// P3.1: each of the 256 bytes, behind each sum, as the promise's words say it.
func TestOneByte(t *testing.T) {
	for i := range 256 {
		b := []byte{byte(i)}
		if got, want := Sum(b), bitByBit(0, b); got != want {
			t.Errorf("Sum(%d) = %016X; want %016X", i, got, want)
		}
		for _, sum := range sums() {
			if got, want := More(sum, b), bitByBit(sum, b); got != want {
				t.Errorf("More(%016X, %d) = %016X; want %016X", sum, i, got, want)
			}
		}
	}
}

// P3.1: bytes of many lengths, behind each sum: as the promise's words say it, and as the library's sum of that polynomial.
func TestManyBytes(t *testing.T) {
	table := crc64.MakeTable(crc64.ECMA)
	for _, b := range append(texts(), mixed(1<<20)) {
		if got, want := Sum(b), crc64.Checksum(b, table); got != want || got != bitByBit(0, b) {
			t.Errorf("Sum of %d bytes = %016X; want %016X", len(b), got, want)
		}
	}
	for _, b := range texts() {
		for _, sum := range sums() {
			if got, want := More(sum, b), crc64.Update(sum, table, b); got != want || got != bitByBit(sum, b) {
				t.Errorf("More(%016X, %d bytes) = %016X; want %016X", sum, len(b), got, want)
			}
		}
	}
}

// P3.1: Sum is More behind 0.
func TestSumIsMoreBehindNothing(t *testing.T) {
	for _, b := range texts() {
		if got, want := Sum(b), More(0, b); got != want {
			t.Errorf("%d bytes: %016X; want %016X", len(b), got, want)
		}
	}
}

// P3.2: two parts, at every cut, behind nothing and behind other sums.
func TestTwoPartsAtEveryCut(t *testing.T) {
	for _, b := range texts() {
		for _, sum := range []uint64{0, all, 1, 1 << 63, digits} {
			whole := More(sum, b)
			for cut := range len(b) + 1 {
				if got := More(More(sum, b[:cut]), b[cut:]); got != whole {
					t.Errorf("%d bytes behind %016X, cut at %d: %016X; want %016X", len(b), sum, cut, got, whole)
				}
			}
		}
	}
}

// P3.2: three parts at every two cuts, and as many parts as there are bytes.
func TestManyParts(t *testing.T) {
	for _, b := range [][]byte{[]byte("123456789"), make([]byte, 20), mixed(40)} {
		whole := Sum(b)
		for i := range len(b) + 1 {
			for j := i; j <= len(b); j++ {
				if got := More(More(Sum(b[:i]), b[i:j]), b[j:]); got != whole {
					t.Errorf("%d bytes, cut at %d and %d: %016X; want %016X", len(b), i, j, got, whole)
				}
			}
		}
		var sum uint64
		for i := range b {
			sum = More(sum, b[i:i+1])
		}
		if sum != whole {
			t.Errorf("%d bytes one by one: %016X; want %016X", len(b), sum, whole)
		}
	}
}

// P3.2: bytes one of which is another one, at each place, by each other value: all the sums differ from one another.
func TestAnotherByteAnotherSum(t *testing.T) {
	for _, b := range [][]byte{{0}, {255}, []byte("123456789"), make([]byte, 33), bytes.Repeat([]byte{255}, 33), mixed(130)} {
		for _, start := range []uint64{0, all, digits} {
			for place := range b {
				other := slices.Clone(b)
				met := map[uint64]int{}
				for i := range 256 {
					other[place] = byte(i)
					sum := More(start, other)
					if before, is := met[sum]; is {
						t.Errorf("%d bytes behind %016X: %d and %d at %d have the sum %016X", len(b), start, before, i, place, sum)
					}
					met[sum] = i
				}
			}
		}
	}
}

// P3.2: one other byte, far ahead of the last ones or near to them.
func TestAnotherByteFarAhead(t *testing.T) {
	b := mixed(1 << 16)
	whole := Sum(b)
	for _, place := range []int{0, 1, 7, 8, 511, 512, 4095, 1 << 15, 1<<16 - 9, 1<<16 - 8, 1<<16 - 2, 1<<16 - 1} {
		for i := range 8 {
			b[place] ^= 1 << i
			if Sum(b) == whole {
				t.Errorf("bit %d of the byte %d: the same sum", i, place)
			}
			b[place] ^= 1 << i
		}
	}
	if Sum(b) != whole {
		t.Error("the same bytes have another sum")
	}
}

// P3.2: the same bytes behind another sum have another sum.
func TestAnotherStartAnotherSum(t *testing.T) {
	starts := sums()
	slices.Sort(starts)
	starts = slices.Compact(starts)
	for _, b := range texts() {
		met := map[uint64]uint64{}
		for _, start := range starts {
			sum := More(start, b)
			if before, is := met[sum]; is {
				t.Errorf("%d bytes behind %016X and %016X: %016X", len(b), before, start, sum)
			}
			met[sum] = start
		}
	}
}

// R4, of P3.1: what is handed in is not changed, its spare room neither, and takes no part beyond its length.
func TestBytesAreLeft(t *testing.T) {
	b := mixed(64)
	kept := slices.Clone(b)
	if Sum(b[:9]) != Sum(slices.Clone(b[:9])) || More(digits, b[:9]) != More(digits, slices.Clone(b[:9])) {
		t.Error("the spare room is summed too")
	}
	if !slices.Equal(b, kept) {
		t.Errorf("changed: %v", b)
	}
}

// R5, of P3.1: a sum hangs on nothing that was summed before.
func TestSumsAreAlone(t *testing.T) {
	text := []byte("123456789")
	for _, b := range texts() {
		More(digits, b)
		if got := Sum(text); got != digits {
			t.Errorf("behind %d bytes: %016X", len(b), got)
		}
	}
}
