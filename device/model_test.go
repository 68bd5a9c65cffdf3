package device

import (
	"bytes"
	"slices"
	"testing"

	"cambist/api"
)

// model is a device as the promises' words say it: all sectors side by side, without a map.
type model struct {
	lasts, cache [][]byte // nil in the cache: it does not hold that one
	off          bool
	fuse         int // below 0: none
}

func modelOf(sectors int) *model {
	m := &model{lasts: make([][]byte, sectors), cache: make([][]byte, sectors), fuse: -1}
	for n := range m.lasts {
		m.lasts[n] = make([]byte, api.Size)
	}
	return m
}

func (m *model) there(n int) bool { return n >= 0 && n < len(m.lasts) }

// top is what Read would tell.
func (m *model) top(n int) []byte {
	if m.cache[n] != nil {
		return m.cache[n]
	}
	return m.lasts[n]
}

func (m *model) read(n int) ([]byte, api.Errno) {
	if m.off {
		return nil, api.ErrDown
	}
	if !m.there(n) {
		return nil, api.ErrSector
	}
	return m.top(n), api.OK
}

// act is what the fuse says of one.
func (m *model) act() bool {
	if m.fuse == 0 {
		m.off = true
	}
	if m.fuse >= 0 {
		m.fuse--
	}
	return !m.off
}

func (m *model) write(n int, b []byte) api.Errno {
	if m.off {
		return api.ErrDown
	}
	if !m.there(n) || len(b) > api.Size {
		return api.ErrSector
	}
	if !m.act() {
		return api.ErrDown
	}
	m.cache[n] = full(string(b))
	return api.OK
}

func (m *model) sync() api.Errno {
	if m.off || !m.act() {
		return api.ErrDown
	}
	for n, b := range m.cache {
		if b != nil {
			m.lasts[n], m.cache[n] = b, nil
		}
	}
	return api.OK
}

func (m *model) restart(keep []int, torn, cut int) {
	for n, b := range m.cache {
		if b == nil {
			continue
		}
		for i := range b {
			if slices.Contains(keep, n) || n == torn && i < cut {
				m.lasts[n][i] = b[i]
			}
		}
		m.cache[n] = nil
	}
	m.off, m.fuse = false, -1
}

func (m *model) spoil(n, at int, by byte) api.Errno {
	if !m.there(n) {
		return api.ErrSector
	}
	if at < 0 || at >= api.Size {
		return api.ErrArg
	}
	m.top(n)[at] ^= by
	return api.OK
}

func (m *model) lasting() []api.Kept {
	var l []api.Kept
	for n, b := range m.lasts {
		if !bytes.Equal(b, full("")) {
			l = append(l, api.Kept{Sector: n, Data: b})
		}
	}
	return l
}

func (m *model) cached() []api.Kept {
	var l []api.Kept
	for n, b := range m.cache {
		if b != nil {
			l = append(l, api.Kept{Sector: n, Data: b})
		}
	}
	return l
}

// mixer gives numbers in no plain order, the same ones in each run.
type mixer uint64

func (x *mixer) upTo(n int) int {
	*x = *x*6364136223846793005 + 1442695040888963407
	return int(uint64(*x)>>33) % n
}

// near is one of the numbers from below 0 to beyond most.
func (x *mixer) near(most int) int { return x.upTo(most+4) - 2 }

// step does one call on a device and on its model, and holds both against each other.
func step(t *testing.T, d *Device, m *model, x *mixer) {
	t.Helper()
	n := x.near(d.Sectors())
	switch x.upTo(8) {
	case 0, 1, 2:
		sizes := []int{0, 1, 3, x.upTo(api.Size), api.Size, api.Size + 1}
		b := filled(sizes[x.upTo(len(sizes))], byte(x.upTo(3)))
		is(t, "Write", d.Write(n, b), m.write(n, b))
	case 3:
		is(t, "Sync", d.Sync(), m.sync())
	case 4:
		acts := x.near(9)
		d.Fuse(acts)
		m.fuse = max(acts, -1)
	case 5:
		var keep []int
		for range x.upTo(5) {
			keep = append(keep, x.near(d.Sectors()))
		}
		cuts := []int{-1, 0, 1, 2, x.upTo(api.Size), api.Size, api.Size + 1}
		cut := cuts[x.upTo(len(cuts))]
		d.Restart(keep, n, cut)
		m.restart(keep, n, cut)
	case 6:
		places := []int{-1, 0, 1, x.upTo(api.Size), api.Size - 1, api.Size}
		at, by := places[x.upTo(len(places))], byte(x.upTo(3))
		is(t, "Spoil", d.Spoil(n, at, by), m.spoil(n, at, by))
	case 7:
		got, e := d.Read(n)
		want, w := m.read(n)
		is(t, "Read", e, w)
		if !bytes.Equal(got, want) {
			t.Errorf("Read(%d) differs", n)
		}
	}
}

// P4.1 to P4.7: many calls, in no plain order, on devices of several sizes, tell what the model tells.
func TestModel(t *testing.T) {
	for seed := range 60 {
		x := mixer(seed)
		sectors := 2 + seed%7
		d, m := made(t, sectors), modelOf(sectors)
		for i := range 300 {
			step(t, d, m, &x)
			if !same(d.Lasting(), m.lasting()) || !same(d.Cached(), m.cached()) || d.Off() != m.off || d.Sectors() != sectors {
				t.Fatalf("seed %d, step %d: the device and its model differ", seed, i)
			}
		}
	}
}
