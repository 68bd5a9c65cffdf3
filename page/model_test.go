package page_test

import (
	"encoding/binary"
	"hash/crc64"
	"strings"

	"cambist/api"
)

// number and word are a number of two bytes, and a text with a byte of how many bytes it has ahead.
func number(n int) string  { return string([]byte{byte(n >> 8), byte(n)}) }
func word(s string) string { return string([]byte{byte(len(s))}) + s }

// text is a page's, as the promise's words say it.
func text(p api.Page) string {
	var s string
	switch p.Kind {
	case api.PLeaf:
		s = number(len(p.Pairs))
		for _, pair := range p.Pairs {
			s += word(pair.Key) + word(pair.Val)
		}
	case api.PBranch:
		s = number(len(p.Keys)) + number(p.Kids[0])
		for i, key := range p.Keys {
			s += word(key) + number(p.Kids[i+1])
		}
	case api.PFree:
		s = number(len(p.Pages))
		for _, n := range p.Pages {
			s += number(n)
		}
		s += number(p.Next)
	case api.PSuper:
		s = number(p.Root) + number(p.Depth) + number(p.Count>>16) + number(p.Count) + number(p.High) + number(p.Next)
	}
	return s
}

// summed are a sector's bytes of a Kind, a sector, a text, and their sum, whatever these are.
func summed(kind, sector int, text string) []byte {
	b := make([]byte, 1024)
	b[0], b[1], b[2] = byte(kind), byte(sector>>8), byte(sector)
	copy(b[3:1016], text)
	return resummed(b)
}

// resummed are bytes with their sum laid anew, wherever they end.
func resummed(b []byte) []byte {
	end := len(b) - 8
	binary.BigEndian.PutUint64(b[end:], crc64.Checksum(b[:end], crc64.MakeTable(crc64.ECMA)))
	return b
}

// doubled are a sector's bytes of an Epoch, and a Kind, a sector and a text twice, whatever these are.
func doubled(epoch uint64, kind, sector int, text string) []byte {
	b := make([]byte, 1024)
	binary.BigEndian.PutUint64(b, epoch)
	binary.BigEndian.PutUint64(b[1016:], epoch)
	for _, at := range []int{8, 512} {
		b[at], b[at+1], b[at+2] = byte(kind), byte(sector>>8), byte(sector)
		copy(b[at+3:at+496], text)
	}
	return b
}

// laid are a page's bytes, as the promise's words say it.
func laid(sector int, p api.Page) []byte {
	if p.Kind == api.PSuper {
		return doubled(p.Epoch, p.Kind, sector, text(p))
	}
	return summed(p.Kind, sector, text(p))
}

// spot tells whether a number is a place, and spots whether all of a list are.
func spot(n int) bool { return n > 1 && n < 4096 }

func spots(l []int) bool {
	for _, n := range l {
		if !spot(n) {
			return false
		}
	}
	return true
}

// keyed tells whether texts are keys that rise.
func keyed(l []string) bool {
	for i, key := range l {
		if key == "" || len(key) > 48 || i > 0 && strings.Compare(l[i-1], key) != -1 {
			return false
		}
	}
	return true
}

// words tells whether a page may be, as the promise's words say it.
func words(p api.Page) bool {
	super := p.Epoch == 0 && p.Root == 0 && p.Depth == 0 && p.Count == 0 && p.High == 0
	switch p.Kind {
	case api.PLeaf:
		var keys []string
		for _, pair := range p.Pairs {
			keys = append(keys, pair.Key)
			if len(pair.Val) > 100 {
				return false
			}
		}
		return len(keys) > 0 && len(keys) < 7 && keyed(keys) && len(p.Keys)+len(p.Kids)+len(p.Pages) == 0 && p.Next == 0 && super
	case api.PBranch:
		return len(p.Keys) > 0 && len(p.Keys) < 13 && keyed(p.Keys) && len(p.Kids)-len(p.Keys) == 1 && spots(p.Kids) &&
			len(p.Pairs)+len(p.Pages) == 0 && p.Next == 0 && super
	case api.PFree:
		for i := range p.Pages {
			if i > 0 && p.Pages[i] <= p.Pages[i-1] {
				return false
			}
		}
		return len(p.Pages) < 201 && spots(p.Pages) && (p.Next == 0 || spot(p.Next)) && len(p.Pairs)+len(p.Keys)+len(p.Kids) == 0 && super
	case api.PSuper:
		none := p.Root == 0 && p.Depth == 0 && p.Count == 0
		some := spot(p.Root) && p.Depth > 0 && p.Depth < 21 && p.Count > 0 && p.Count < 1<<31
		return (none || some) && p.High > 1 && p.High < 4097 && (p.Next == 0 || spot(p.Next)) &&
			len(p.Pairs)+len(p.Keys)+len(p.Kids)+len(p.Pages) == 0
	}
	return false
}

// mixer gives numbers in no plain order, the same ones in each run.
type mixer uint64

func (x *mixer) upTo(n int) int {
	*x = *x*6364136223846793005 + 1442695040888963407
	return int(uint64(*x)>>33) % n
}

// seldom is n, or now and then another number near the edges.
func (x *mixer) seldom(n int) int {
	edges := []int{-1, 0, 1, 2, 3, 20, 21, 4095, 4096, 4097, 65536, 1<<31 - 1, 1 << 31}
	if x.upTo(40) == 0 {
		return edges[x.upTo(len(edges))]
	}
	return n
}

// key is a text of any bytes, seldom one that is no key.
func (x *mixer) key(ahead string) string {
	b := make([]byte, min(max(x.seldom(1+x.upTo(12)), 0), 60))
	for i := range b {
		b[i] = byte(x.upTo(256))
	}
	if x.upTo(20) == 0 || len(b) == 0 {
		return string(b)
	}
	return ahead + string(b)
}

// rising are n texts that rise, most often.
func (x *mixer) rising(n int) []string {
	var l []string
	for i := range n {
		l = append(l, x.key(string([]byte{byte(16 * (i % 16))})))
	}
	return l
}

// page is one of any Kind, near to what may be.
func (x *mixer) page() api.Page {
	p := api.Page{Kind: 1 + x.upTo(4)}
	switch p.Kind {
	case api.PLeaf:
		for _, key := range x.rising(x.upTo(8)) {
			p.Pairs = append(p.Pairs, api.Pair{Key: key, Val: strings.Repeat("v", max(0, min(x.seldom(x.upTo(100)), 200)))})
		}
	case api.PBranch:
		p.Keys = x.rising(x.upTo(14))
		for range len(p.Keys) + 1 {
			p.Kids = append(p.Kids, x.seldom(2+x.upTo(4094)))
		}
	case api.PFree:
		n := 1
		for range x.upTo(30) {
			n = x.seldom(n + 1 + x.upTo(100))
			p.Pages = append(p.Pages, n)
		}
		p.Next = x.seldom(0)
	case api.PSuper:
		p.Epoch, p.High, p.Next = uint64(x.upTo(1<<30)), x.seldom(2+x.upTo(4095)), x.seldom(0)
		p.Root, p.Depth, p.Count = x.seldom(2+x.upTo(4094)), x.seldom(1+x.upTo(20)), x.seldom(1+x.upTo(1<<30))
	}
	if x.upTo(20) == 0 {
		l := parts()
		l[x.upTo(len(l))].lay(&p)
	}
	return p
}
