package cache_test

import (
	"bytes"
	"slices"
	"testing"

	"moat/api"
	"moat/cache"
	"moat/disk"
)

// known is what a model knows of a sector.
type known struct {
	cached, dirty bool
	now           api.Patch
	pins, used    int
}

// A model keeps no order: it looks at all sectors of the disk, each with the time of its last use, and works on a disk of its own.
type model struct {
	d          *disk.Disk
	room, time int
	at         []known
}

func newModel(d *disk.Disk, room int) *model {
	return &model{d: d, room: room, at: make([]known, d.Len())}
}

// sorted returns the cached sectors, the least recently used one first.
func (m *model) sorted() []int {
	var l []int
	for i, k := range m.at {
		if k.cached {
			l = append(l, i)
		}
	}
	slices.SortFunc(l, func(a, b int) int { return m.at[a].used - m.at[b].used })
	return l
}

func (m *model) makeRoom() api.Errno {
	l := m.sorted()
	if len(l) < m.room {
		return api.OK
	}
	for _, i := range l {
		if m.at[i].pins > 0 {
			continue
		}
		if m.at[i].dirty {
			if e := m.d.Write(m.at[i].now); e != api.OK {
				return e
			}
		}
		m.at[i] = known{}
		return api.OK
	}
	return api.ErrFull
}

func (m *model) use(sector int) {
	m.time++
	m.at[sector].used = m.time
}

func (m *model) get(sector int) ([]byte, api.Errno) {
	if sector < 0 || sector >= len(m.at) {
		return nil, api.ErrArg
	}
	if !m.at[sector].cached {
		if e := m.makeRoom(); e != api.OK {
			return nil, e
		}
		b, e := m.d.Read(sector)
		if e != api.OK {
			return nil, e
		}
		m.at[sector] = known{cached: true, now: api.Patch{Sector: sector, Bytes: b}}
	}
	m.use(sector)
	return m.at[sector].now.Bytes, api.OK
}

func (m *model) put(p api.Patch) api.Errno {
	if p.Sector < 0 || p.Sector >= len(m.at) || len(p.Bytes) != 64 {
		return api.ErrArg
	}
	if !m.at[p.Sector].cached {
		if e := m.makeRoom(); e != api.OK {
			return e
		}
	}
	m.at[p.Sector] = known{cached: true, dirty: true, now: p, pins: m.at[p.Sector].pins}
	m.use(p.Sector)
	return api.OK
}

func (m *model) pin(sector, n int) api.Errno {
	if sector < 0 || sector >= len(m.at) || !m.at[sector].cached || m.at[sector].pins+n < 0 {
		return api.ErrNone
	}
	m.at[sector].pins += n
	return api.OK
}

func (m *model) flush() api.Errno {
	for i, k := range m.at {
		if k.dirty && k.pins == 0 {
			if e := m.d.Write(k.now); e != api.OK {
				return e
			}
			m.at[i].dirty = false
		}
	}
	return m.d.Flush()
}

// sameDisk compares two disks.
func sameDisk(t *testing.T, d, o *disk.Disk) {
	t.Helper()
	if d.Dead() != o.Dead() || d.Done() != o.Done() {
		t.Errorf("Dead and Done: got %v and %d, want %v and %d", d.Dead(), d.Done(), o.Dead(), o.Done())
	}
	for i := range d.Len() {
		b, e1 := d.Read(i)
		a, e2 := d.Tag(i)
		ob, o1 := o.Read(i)
		oa, o2 := o.Tag(i)
		if !bytes.Equal(b, ob) || a != oa || e1 != o1 || e2 != o2 {
			t.Errorf("sector %d of the disk: got %v, tag %d, error %d; want %v, tag %d, error %d", i, b, a, e1, ob, oa, o1)
		}
	}
}

// sameCrashes compares what two disks become by crashes, so that the order of their writes is compared too.
func sameCrashes(t *testing.T, d, o *disk.Disk) {
	t.Helper()
	for _, there := range []uint64{0, 1, 2, 4, 5, 8, 10, all - 1, all} {
		a, b := d.Copy(), o.Copy()
		a.Crash(there)
		b.Crash(there)
		sameDisk(t, a, b)
	}
}

// matches compares all that a cache tells with its model.
func matches(t *testing.T, c *cache.Cache, d *disk.Disk, m *model) {
	t.Helper()
	l := m.sorted()
	slices.Reverse(l)
	has(t, c, l...)
	l = nil
	for i, k := range m.at {
		if k.dirty {
			l = append(l, i)
		}
	}
	dirty(t, c, l...)
	if d.Dead() != m.d.Dead() || d.Done() != m.d.Done() {
		t.Errorf("Dead and Done: got %v and %d, want %v and %d", d.Dead(), d.Done(), m.d.Dead(), m.d.Done())
	}
}

// step does thing k of 4 n + 1 on a cache of n sectors and on its model.
func step(t *testing.T, c *cache.Cache, m *model, n, k, write int) {
	t.Helper()
	switch at := k % n; k / n {
	case 0:
		b, e := c.Get(at)
		if want, e1 := m.get(at); e != e1 || !bytes.Equal(b, want) {
			t.Errorf("Get of sector %d: got %v, error %d; want %v, error %d", at, b, e, want, e1)
		}
	case 1:
		puts(t, c, at, write, m.put(patch(at, write)))
	case 2:
		pins(t, c, at, m.pin(at, 1))
	case 3:
		unpins(t, c, at, m.pin(at, -1))
	default:
		flushes(t, c, m.flush())
	}
}

// All runs of four calls on three sectors, for each room and with each cut.
func TestAllShortRunsAsTheModel(t *testing.T) {
	const n, things = 3, 13
	for run := range things * things * things * things {
		for room := 1; room <= n; room++ {
			for after := -1; after <= 2; after++ {
				d := newDisk(t, n)
				d.Cut(after)
				c, m := cacheOf(t, d, room), newModel(d.Copy(), room)
				for k, left := 0, run; k < 4; k, left = k+1, left/things {
					step(t, c, m, n, left%things, k+1)
					matches(t, c, d, m)
				}
				sameDisk(t, d, m.d)
				if t.Failed() {
					t.Fatalf("run %d with room %d, cut after %d", run, room, after)
				}
			}
		}
	}
}

// dice are numbers that look like no rule, and are the same each time.
type dice uint64

func (x *dice) under(n int) int {
	*x = *x*6364136223846793005 + 1442695040888963407
	return int(uint64(*x) >> 33 % uint64(n))
}

// trouble does one thing to a disk and to its model's, or hands something wrong to the cache.
func (x *dice) trouble(t *testing.T, c *cache.Cache, d *disk.Disk, m *model) {
	n := d.Len()
	switch x.under(6) {
	case 0, 1:
		after := x.under(8) - 1
		d.Cut(after)
		m.d.Cut(after)
	case 2, 3:
		there := uint64(x.under(1<<31))<<33 ^ uint64(x.under(1<<31))
		d.Crash(there)
		m.d.Crash(there)
	case 4:
		wrong := wrongPatches(n)
		p := wrong[x.under(len(wrong))]
		if e, want := c.Put(p), m.put(p); e != want {
			t.Errorf("Put of a wrong patch: error %d, want %d", e, want)
		}
	default:
		wrong := wrongSectors(n)
		at := wrong[x.under(len(wrong))]
		getFails(t, c, at, api.ErrArg)
		pins(t, c, at, m.pin(at, 1))
		unpins(t, c, at, m.pin(at, -1))
	}
}

// Long runs with power failures, on disks of several sizes: pins are made rarely, so that there is room for the most part.
func TestLongRunsAsTheModel(t *testing.T) {
	for seed := range 60 {
		x := dice(seed)
		n := 2 + seed%9
		room := 1 + x.under(n)
		d := newDisk(t, n)
		c, m := cacheOf(t, d, room), newModel(d.Copy(), room)
		for write := range 600 {
			switch x.under(16) {
			case 0:
				x.trouble(t, c, d, m)
			case 1:
				step(t, c, m, n, 2*n+x.under(n), 0)
			case 2, 3:
				step(t, c, m, n, 3*n+x.under(n), 0)
			case 4:
				step(t, c, m, n, 4*n, 0)
			default:
				step(t, c, m, n, x.under(2*n), write+1)
			}
			matches(t, c, d, m)
			sameDisk(t, d, m.d)
			if write%10 == 0 {
				sameCrashes(t, d, m.d)
			}
			if t.Failed() {
				t.Fatalf("run %d, call %d", seed, write)
			}
		}
	}
}

// P6.4

// While the power is on, Get returns what was put last, or what was on the disk, and there are never more sectors than room.
func TestGetReturnsWhatWasPutLast(t *testing.T) {
	for seed := range 40 {
		x := dice(2000 + seed)
		n := 1 + x.under(20)
		room := 1 + x.under(n)
		c, _ := newCache(t, n, room)
		last, pinned := make([]int, n), make([]int, n)
		for i := range n {
			last[i] = 1000 + i
		}
		for write := range 1000 {
			at := x.under(n)
			switch x.under(8) {
			case 0, 1, 2:
				if b, e := c.Get(at); e != api.ErrFull && (e != api.OK || !bytes.Equal(b, patch(at, last[at]).Bytes)) {
					t.Fatalf("Get of sector %d: got %v, error %d; want write %d", at, b, e, last[at])
				}
			case 3, 4, 5:
				if e := c.Put(patch(at, 3000+write)); e == api.OK {
					last[at] = 3000 + write
				} else if e != api.ErrFull {
					t.Fatalf("Put of sector %d: error %d", at, e)
				}
			case 6:
				flushes(t, c, api.OK)
			default:
				if x.under(2) == 0 && c.Pin(at) == api.OK {
					pinned[at]++
				} else if c.Unpin(at) == api.OK {
					pinned[at]--
				}
			}
			l := c.Has()
			slices.Sort(l)
			if len(l) > room || len(slices.Compact(slices.Clone(l))) != len(l) {
				t.Fatalf("room %d, cached %v", room, l)
			}
		}
		for at := range n {
			for ; pinned[at] > 0; pinned[at]-- {
				unpins(t, c, at, api.OK)
			}
		}
		for at := range n {
			gets(t, c, at, last[at])
		}
	}
}

// P6.5

// Whatever is called, a sector that is pinned and dirty remains dirty, and the disk does not get its bytes.
func TestPinnedAndDirtySectorsAreNotWritten(t *testing.T) {
	for seed := range 40 {
		x := dice(4000 + seed)
		n := 2 + x.under(6)
		c, d := newCache(t, n, 1+x.under(n))
		last, held := make([]int, n), make([]int, n)
		for write := range 500 {
			before := c.Dirty()
			at := x.under(n)
			pinned := held[at] > 0
			switch x.under(9) {
			case 0, 1:
				c.Get(at)
			case 2, 3, 4:
				if c.Put(patch(at, 3000+write)) == api.OK {
					last[at] = 3000 + write
				}
			case 5:
				if c.Pin(at) == api.OK {
					held[at]++
				}
			case 6:
				if c.Unpin(at) == api.OK {
					held[at]--
				}
			case 7:
				d.Cut(x.under(6))
				c.Flush()
			default:
				d.Crash(uint64(x.under(1 << 31)))
				c.Flush()
			}
			seen := d.Copy()
			seen.Crash(all)
			after := c.Dirty()
			for i := range n {
				if held[i] == 0 || i == at && !pinned {
					continue
				}
				b, _ := seen.Read(i)
				if slices.Contains(before, i) && !slices.Contains(after, i) {
					t.Fatalf("sector %d was pinned and dirty, and is clean", i)
				}
				if slices.Contains(after, i) && bytes.Equal(b, patch(i, last[i]).Bytes) {
					t.Fatalf("sector %d is pinned and dirty, and on the disk", i)
				}
			}
		}
	}
}

func TestSameCallsLeaveTheSameSectors(t *testing.T) {
	run := func() *disk.Disk {
		x := dice(77)
		d := newDisk(t, 30)
		c, m := cacheOf(t, d, 12), newModel(newDisk(t, 30), 12)
		for write := range 2000 {
			step(t, c, m, 30, x.under(60), write+1)
		}
		flushes(t, c, m.flush())
		return d
	}
	d, o := run(), run()
	sameDisk(t, d, o)
	if d.Done() < 500 {
		t.Errorf("%d operations", d.Done())
	}
}
