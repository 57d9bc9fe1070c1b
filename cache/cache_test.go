package cache_test

import (
	"bytes"
	"math"
	"slices"
	"testing"

	"moat/api"
	"moat/cache"
	"moat/disk"
)

const all = math.MaxUint64

// patch makes a sector what it is after write c: bytes and a tag that no two writes have in common; 0 stands for a sector that was never written.
func patch(sector, c int) api.Patch {
	b := make([]byte, 64)
	if c == 0 {
		return api.Patch{Sector: sector, Bytes: b}
	}
	for i := range b {
		b[i] = byte(i + 7*c)
	}
	b[63], b[62] = byte(c/256), byte(c)
	return api.Patch{Sector: sector, Bytes: b, Tag: api.Label(65535 - c)}
}

func newDisk(t *testing.T, n int) *disk.Disk {
	t.Helper()
	d, e := disk.New(n)
	if d == nil || e != api.OK {
		t.Fatalf("a disk of %d sectors: error %d", n, e)
	}
	return d
}

// newCache returns a cache of a disk whose sectors were written once each, safely: sector i by write 1000 + i.
func newCache(t *testing.T, n, room int) (*cache.Cache, *disk.Disk) {
	t.Helper()
	d := newDisk(t, n)
	for i := range n {
		if e := d.Write(patch(i, 1000+i)); e != api.OK {
			t.Fatalf("Write of sector %d: error %d", i, e)
		}
	}
	d.Flush()
	return cacheOf(t, d, room), d
}

func cacheOf(t *testing.T, d *disk.Disk, room int) *cache.Cache {
	t.Helper()
	c, e := cache.New(d, room)
	if c == nil || e != api.OK {
		t.Fatalf("New with room %d: error %d", room, e)
	}
	return c
}

func gets(t *testing.T, c *cache.Cache, sector, want int) {
	t.Helper()
	if b, e := c.Get(sector); e != api.OK || !bytes.Equal(b, patch(sector, want).Bytes) {
		t.Errorf("Get of sector %d: got %v, error %d; want write %d", sector, b, e, want)
	}
}

func getFails(t *testing.T, c *cache.Cache, sector int, want api.Errno) {
	t.Helper()
	if b, e := c.Get(sector); e != want || len(b) != 0 {
		t.Errorf("Get of sector %d: got %d bytes, error %d; want error %d", sector, len(b), e, want)
	}
}

func puts(t *testing.T, c *cache.Cache, sector, n int, want api.Errno) {
	t.Helper()
	if e := c.Put(patch(sector, n)); e != want {
		t.Errorf("Put of sector %d: error %d, want %d", sector, e, want)
	}
}

func pins(t *testing.T, c *cache.Cache, sector int, want api.Errno) {
	t.Helper()
	if e := c.Pin(sector); e != want {
		t.Errorf("Pin of sector %d: error %d, want %d", sector, e, want)
	}
}

func unpins(t *testing.T, c *cache.Cache, sector int, want api.Errno) {
	t.Helper()
	if e := c.Unpin(sector); e != want {
		t.Errorf("Unpin of sector %d: error %d, want %d", sector, e, want)
	}
}

func flushes(t *testing.T, c *cache.Cache, want api.Errno) {
	t.Helper()
	if e := c.Flush(); e != want {
		t.Errorf("Flush: error %d, want %d", e, want)
	}
}

// has compares the cached sectors, the most recently used one first.
func has(t *testing.T, c *cache.Cache, want ...int) {
	t.Helper()
	if l := c.Has(); !slices.Equal(l, want) {
		t.Errorf("Has: got %v, want %v", l, want)
	}
}

func dirty(t *testing.T, c *cache.Cache, want ...int) {
	t.Helper()
	if l := c.Dirty(); !slices.Equal(l, want) {
		t.Errorf("Dirty: got %v, want %v", l, want)
	}
}

// onDisk makes sure that a sector of the disk has the bytes and the tag of a write.
func onDisk(t *testing.T, d *disk.Disk, sector, want int) {
	t.Helper()
	p := patch(sector, want)
	if b, e := d.Read(sector); e != api.OK || !bytes.Equal(b, p.Bytes) {
		t.Errorf("sector %d of the disk: got %v, error %d; want write %d", sector, b, e, want)
	}
	if a, e := d.Tag(sector); e != api.OK || a != p.Tag {
		t.Errorf("tag %d of the disk: got %d, error %d; want %d", sector, a, e, p.Tag)
	}
}

// allOnDisk compares the disk with want, a write for each of its sectors.
func allOnDisk(t *testing.T, d *disk.Disk, want ...int) {
	t.Helper()
	if d.Len() != len(want) {
		t.Fatalf("the disk has %d sectors, want %d", d.Len(), len(want))
	}
	for i, c := range want {
		onDisk(t, d, i, c)
	}
}

// safeOnDisk compares a disk with want as it would be if no write that is not safe survived.
func safeOnDisk(t *testing.T, d *disk.Disk, want ...int) {
	t.Helper()
	d = d.Copy()
	d.Crash(0)
	allOnDisk(t, d, want...)
}

// does makes sure that a step makes so many operations of the disk.
func does(t *testing.T, d *disk.Disk, operations int, step func()) {
	t.Helper()
	before := d.Done()
	step()
	if n := d.Done() - before; n != operations {
		t.Errorf("%d operations of the disk, want %d", n, operations)
	}
}

// changesNothing makes sure that a step leaves the cache and the disk as they were.
func changesNothing(t *testing.T, c *cache.Cache, d *disk.Disk, step func()) {
	t.Helper()
	h, l, dead := c.Has(), c.Dirty(), d.Dead()
	does(t, d, 0, step)
	has(t, c, h...)
	dirty(t, c, l...)
	if d.Dead() != dead {
		t.Errorf("Dead: got %v, want %v", d.Dead(), dead)
	}
}

// off takes the power away without an operation that is done.
func off(t *testing.T, d *disk.Disk) {
	t.Helper()
	d.Cut(0)
	if e := d.Flush(); e != api.ErrDead {
		t.Errorf("the disk's Flush after Cut: error %d", e)
	}
}

// wrongSectors returns sectors that a disk of n does not have; n is below 4096.
func wrongSectors(n int) []int {
	return []int{-1, n, n + 1, -2, -n, -64, 4096, 1 << 16, 1<<31 - 1, 1 << 31, 1 << 32, 1<<32 + 1, math.MaxInt, math.MinInt, math.MinInt + 1}
}

// wrongPatches returns patches that a disk of n sectors refuses; n is at least 1.
func wrongPatches(n int) []api.Patch {
	var l []api.Patch
	for _, at := range wrongSectors(n) {
		l = append(l, patch(at, 9), api.Patch{Sector: at})
	}
	for _, size := range []int{0, 1, 32, 62, 63, 65, 66, 127, 128, 4096} {
		l = append(l, api.Patch{Sector: n - 1, Bytes: make([]byte, size, 4096), Tag: 3})
	}
	return append(l, api.Patch{}, api.Patch{Sector: 0, Tag: 5})
}

// P6.1: New

func TestNewOfEachRoom(t *testing.T) {
	for _, room := range []int{1, 2, 3, 16, 63, 64, 65, 255, 256, 2048, 4094, 4095, 4096} {
		d := newDisk(t, 4096)
		c := cacheOf(t, d, room)
		has(t, c)
		dirty(t, c)
		for i := range room {
			puts(t, c, i, i+1, api.OK)
		}
		if d.Done() != 0 || len(c.Has()) != room || len(c.Dirty()) != room {
			t.Errorf("room %d: %d operations, %d cached, %d dirty", room, d.Done(), len(c.Has()), len(c.Dirty()))
		}
		if room < 4096 {
			gets(t, c, 4095, 0)
			onDisk(t, d, 0, 1)
		}
		if n := min(1, 4096-room); d.Done() != n || len(c.Has()) != room || len(c.Dirty()) != room-n {
			t.Errorf("room %d and one more: %d operations, %d cached, %d dirty", room, d.Done(), len(c.Has()), len(c.Dirty()))
		}
	}
}

func TestNewRefusesRooms(t *testing.T) {
	d := newDisk(t, 2)
	for _, room := range []int{0, -1, 4097, -2, -4096, 4098, 8192, 1 << 16, 1<<31 - 1, 1 << 31, 1 << 32, 1<<32 + 1, math.MaxInt, math.MinInt, math.MinInt + 1} {
		if c, e := cache.New(d, room); c != nil || e != api.ErrArg {
			t.Errorf("New with room %d: got %v, error %d", room, c != nil, e)
		}
	}
}

func TestNewRefusesANilDisk(t *testing.T) {
	for _, room := range []int{1, 2, 4096, 0, -1, 4097, math.MaxInt, math.MinInt} {
		if c, e := cache.New(nil, room); c != nil || e != api.ErrNone {
			t.Errorf("New of no disk with room %d: got %v, error %d", room, c != nil, e)
		}
	}
}

func TestNewLeavesTheDisk(t *testing.T) {
	d := newDisk(t, 2)
	d.Cut(1)
	does(t, d, 0, func() { cacheOf(t, d, 2) })
	if d.Dead() || d.Flush() != api.OK || d.Flush() != api.ErrDead {
		t.Errorf("New used up what Cut had left")
	}
	has(t, cacheOf(t, d, 1))
	if !d.Dead() {
		t.Errorf("New of a disk that is dead brought the power back")
	}
}

func TestCachesOfTwoDisks(t *testing.T) {
	c, d := newCache(t, 3, 2)
	other, last := newCache(t, 3, 2)
	puts(t, c, 0, 1, api.OK)
	pins(t, c, 0, api.OK)
	has(t, other)
	gets(t, other, 0, 1000)
	puts(t, other, 1, 2, api.OK)
	unpins(t, other, 0, api.ErrNone)
	flushes(t, other, api.OK)
	has(t, c, 0)
	dirty(t, c, 0)
	allOnDisk(t, d, 1000, 1001, 1002)
	allOnDisk(t, last, 1000, 2, 1002)
}

// What one cache of a disk holds back, another does not know.
func TestTwoCachesOfOneDisk(t *testing.T) {
	c, d := newCache(t, 3, 2)
	other := cacheOf(t, d, 3)
	puts(t, c, 0, 1, api.OK)
	gets(t, other, 0, 1000)
	flushes(t, other, api.OK)
	dirty(t, c, 0)
	flushes(t, c, api.OK)
	gets(t, c, 0, 1)
	allOnDisk(t, d, 1, 1001, 1002)
}

// P6.1: Get

func TestGetReadsEachSector(t *testing.T) {
	for _, room := range []int{1, 2, 5, 6} {
		c, d := newCache(t, 5, room)
		does(t, d, 0, func() {
			for _, i := range []int{0, 1, 2, 3, 4, 4, 2, 0, 1, 3} {
				gets(t, c, i, 1000+i)
				if l := c.Has(); len(l) == 0 || l[0] != i {
					t.Errorf("Has after Get of %d: %v", i, l)
				}
				dirty(t, c)
			}
		})
	}
}

func TestGetMakesASectorTheMostRecentlyUsed(t *testing.T) {
	c, _ := newCache(t, 4, 4)
	for i := range 4 {
		gets(t, c, i, 1000+i)
	}
	for _, step := range [][]int{{3, 2, 1, 0}, {3, 2, 1, 0}, {1, 3, 2, 0}, {0, 1, 3, 2}, {2, 0, 1, 3}, {0, 2, 1, 3}} {
		gets(t, c, step[0], 1000+step[0])
		has(t, c, step...)
	}
}

// A cached sector is not read again: it answers while the power is off, and after a crash that undid its write.
func TestGetOfACachedSectorLeavesTheDisk(t *testing.T) {
	c, d := newCache(t, 4, 3)
	gets(t, c, 0, 1000)
	puts(t, c, 1, 1, api.OK)
	puts(t, c, 2, 2, api.OK)
	d.Cut(2)
	flushes(t, c, api.ErrDead)
	for range 2 {
		does(t, d, 0, func() {
			gets(t, c, 0, 1000)
			gets(t, c, 1, 1)
			gets(t, c, 2, 2)
		})
		has(t, c, 2, 1, 0)
		d.Crash(0)
	}
	allOnDisk(t, d, 1000, 1001, 1002, 1003)
}

func TestGetRefusesSectors(t *testing.T) {
	for _, n := range []int{0, 1, 2, 5} {
		for room := 1; room <= 3; room++ {
			for _, pinned := range []bool{false, true} {
				c, d := newCache(t, n, room)
				for i := range min(n, room) {
					puts(t, c, i, i+1, api.OK)
					if pinned {
						pins(t, c, i, api.OK)
					}
				}
				refuse := func() {
					for _, at := range wrongSectors(n) {
						getFails(t, c, at, api.ErrArg)
					}
				}
				changesNothing(t, c, d, refuse)
				off(t, d)
				changesNothing(t, c, d, refuse)
			}
		}
	}
}

func TestGetWhileThePowerIsOff(t *testing.T) {
	c, d := newCache(t, 4, 2)
	off(t, d)
	for i := range 4 {
		getFails(t, c, i, api.ErrDead)
		has(t, c)
		dirty(t, c)
	}
	d.Crash(0)
	gets(t, c, 2, 1002)
	off(t, d)
	getFails(t, c, 3, api.ErrDead)
	gets(t, c, 2, 1002)
	has(t, c, 2)
	pins(t, c, 3, api.ErrNone)
}

// P6.1: Put

func TestPutIsNotWritten(t *testing.T) {
	c, d := newCache(t, 4, 4)
	does(t, d, 0, func() {
		for n, i := range []int{2, 0, 3, 2, 2, 1, 0} {
			puts(t, c, i, n+1, api.OK)
			gets(t, c, i, n+1)
		}
	})
	has(t, c, 0, 1, 2, 3)
	dirty(t, c, 0, 1, 2, 3)
	allOnDisk(t, d, 1000, 1001, 1002, 1003)
	flushes(t, c, api.OK)
	allOnDisk(t, d, 7, 6, 5, 3)
}

func TestPutOfACachedSector(t *testing.T) {
	c, d := newCache(t, 3, 3)
	gets(t, c, 0, 1000)
	gets(t, c, 1, 1001)
	puts(t, c, 2, 1, api.OK)
	has(t, c, 2, 1, 0)
	dirty(t, c, 2)
	puts(t, c, 0, 2, api.OK)
	has(t, c, 0, 2, 1)
	dirty(t, c, 0, 2)
	flushes(t, c, api.OK)
	dirty(t, c)
	// The same bytes and tag as on the disk make a sector dirty too.
	puts(t, c, 2, 1, api.OK)
	has(t, c, 2, 0, 1)
	dirty(t, c, 2)
	does(t, d, 2, func() { flushes(t, c, api.OK) })
	// Bytes and tag each count alone.
	p := patch(1, 5)
	p.Tag = patch(1, 1001).Tag
	if e := c.Put(p); e != api.OK {
		t.Errorf("Put: error %d", e)
	}
	dirty(t, c, 1)
	puts(t, c, 1, 5, api.OK)
	flushes(t, c, api.OK)
	allOnDisk(t, d, 2, 5, 1)
}

// A Put leaves the pins that a sector had.
func TestPutKeepsPins(t *testing.T) {
	for n := range 5 {
		c, d := newCache(t, 3, 2)
		gets(t, c, 1, 1001)
		for range n {
			pins(t, c, 1, api.OK)
		}
		puts(t, c, 1, 1, api.OK)
		puts(t, c, 1, 2, api.OK)
		for range n {
			flushes(t, c, api.OK)
			dirty(t, c, 1)
			onDisk(t, d, 1, 1001)
			unpins(t, c, 1, api.OK)
		}
		unpins(t, c, 1, api.ErrNone)
		flushes(t, c, api.OK)
		onDisk(t, d, 1, 2)
	}
}

func TestPutWhileThePowerIsOff(t *testing.T) {
	c, d := newCache(t, 4, 2)
	off(t, d)
	puts(t, c, 3, 1, api.OK)
	puts(t, c, 3, 2, api.OK)
	puts(t, c, 0, 3, api.OK)
	gets(t, c, 3, 2)
	has(t, c, 3, 0)
	dirty(t, c, 0, 3)
	d.Crash(0)
	flushes(t, c, api.OK)
	allOnDisk(t, d, 3, 1001, 1002, 2)
}

func TestPutRefusesPatches(t *testing.T) {
	for _, n := range []int{1, 2, 5} {
		for room := 1; room <= 3; room++ {
			for _, pinned := range []bool{false, true} {
				c, d := newCache(t, n, room)
				// The last sector is among those cached or not, as there is room.
				for i := range min(n, room) {
					gets(t, c, i, 1000+i)
					if pinned {
						pins(t, c, i, api.OK)
					}
				}
				refuse := func() {
					for _, p := range wrongPatches(n) {
						if e := c.Put(p); e != api.ErrArg {
							t.Errorf("Put of sector %d with %d bytes: error %d", p.Sector, len(p.Bytes), e)
						}
					}
				}
				changesNothing(t, c, d, refuse)
				for i := range min(n, room) {
					gets(t, c, i, 1000+i)
				}
				off(t, d)
				changesNothing(t, c, d, refuse)
			}
		}
	}
}

func TestPutRefusesEachSize(t *testing.T) {
	for size := range 200 {
		c, d := newCache(t, 3, 1)
		puts(t, c, 1, 1, api.OK)
		for at := range 3 {
			e := c.Put(api.Patch{Sector: at, Bytes: make([]byte, size), Tag: 7})
			if (e == api.OK) != (size == 64) || e != api.OK && e != api.ErrArg {
				t.Errorf("Put of %d bytes: error %d", size, e)
			}
		}
		if size != 64 {
			gets(t, c, 1, 1)
			dirty(t, c, 1)
			onDisk(t, d, 1, 1001)
		}
	}
}

func TestPutOfADiskOfNoSectors(t *testing.T) {
	c := cacheOf(t, newDisk(t, 0), 1)
	for _, at := range []int{-1, 0, 1} {
		getFails(t, c, at, api.ErrArg)
		puts(t, c, at, 1, api.ErrArg)
		pins(t, c, at, api.ErrNone)
		unpins(t, c, at, api.ErrNone)
	}
	flushes(t, c, api.OK)
	has(t, c)
	dirty(t, c)
}

// Each tag and each byte comes to the disk, by an eviction and by a flush.
func TestPutOfEachTagAndByte(t *testing.T) {
	c, d := newCache(t, 2, 1)
	for n := range 65536 {
		p := api.Patch{Sector: n % 2, Bytes: bytes.Repeat([]byte{byte(n)}, 64), Tag: api.Label(n)}
		p.Bytes[n%64] = byte(n / 256)
		e := c.Put(p)
		if n%3 == 0 {
			c.Flush()
		} else {
			c.Get(1 - n%2)
		}
		b, e1 := d.Read(n % 2)
		a, e2 := d.Tag(n % 2)
		if e != api.OK || e1 != api.OK || e2 != api.OK || !bytes.Equal(b, p.Bytes) || a != p.Tag {
			t.Fatalf("byte and tag %d: got %v and %d, errors %d, %d, %d", n, b, a, e, e1, e2)
		}
	}
}

// Bytes of the caller

func TestBytesHandedInAreTheCallers(t *testing.T) {
	c, d := newCache(t, 3, 2)
	b := append(patch(1, 1).Bytes, 99, 99, 99)
	p := api.Patch{Sector: 1, Bytes: b[:64], Tag: patch(1, 1).Tag}
	if e := c.Put(p); e != api.OK {
		t.Fatalf("Put: error %d", e)
	}
	gets(t, c, 1, 1)
	if !bytes.Equal(b, append(patch(1, 1).Bytes, 99, 99, 99)) || p.Sector != 1 || p.Tag != patch(1, 1).Tag {
		t.Errorf("Put changed its argument")
	}
	clear(b)
	gets(t, c, 1, 1)
	flushes(t, c, api.OK)
	onDisk(t, d, 1, 1)
	p.Bytes = patch(1, 2).Bytes
	p.Tag = patch(1, 2).Tag
	c.Put(p)
	clear(p.Bytes)
	gets(t, c, 1, 2)
	gets(t, c, 0, 1000)
	gets(t, c, 2, 1002)
	onDisk(t, d, 1, 2)
	if !bytes.Equal(b, make([]byte, 67)) {
		t.Errorf("the cache changed bytes that were handed in")
	}
}

func TestBytesHandedOutAreTheCallers(t *testing.T) {
	c, d := newCache(t, 3, 2)
	puts(t, c, 1, 1, api.OK)
	var l [][]byte
	for range 3 {
		for i := range 2 {
			b, _ := c.Get(i)
			l = append(l, b)
			clear(b[:cap(b)])
			gets(t, c, i, []int{1000, 1}[i])
		}
	}
	flushes(t, c, api.OK)
	allOnDisk(t, d, 1000, 1, 1002)
	// The next write of a sector must not reach what was handed out.
	puts(t, c, 0, 2, api.OK)
	puts(t, c, 1, 3, api.OK)
	for _, b := range l {
		if !bytes.Equal(b, make([]byte, 64)) {
			t.Errorf("the cache changed bytes that it had handed out: %v", b)
		}
	}
	l[0][0], l[1][0] = 200, 201
	if l[2][0] != 0 || l[3][0] != 0 || l[4][0] != 0 || l[5][0] != 0 {
		t.Errorf("two results share memory")
	}
	gets(t, c, 0, 2)
	gets(t, c, 1, 3)
}

func TestListsHandedOutAreTheCallers(t *testing.T) {
	c, _ := newCache(t, 6, 4)
	for i := range 3 {
		puts(t, c, i, 1, api.OK)
	}
	h, l := c.Has(), c.Dirty()
	h, l = h[:cap(h)], l[:cap(l)]
	for i := range h {
		h[i] = -5
	}
	for i := range l {
		l[i] = -6
	}
	has(t, c, 2, 1, 0)
	dirty(t, c, 0, 1, 2)
	puts(t, c, 4, 1, api.OK)
	gets(t, c, 5, 1005)
	has(t, c, 5, 4, 2, 1)
	dirty(t, c, 1, 2, 4)
	if slices.ContainsFunc(h, func(n int) bool { return n != -5 }) || slices.ContainsFunc(l, func(n int) bool { return n != -6 }) {
		t.Errorf("the cache changed lists that it had handed out: %v and %v", h, l)
	}
}

// P6.2

func TestExamples(t *testing.T) {
	c, d := newCache(t, 6, 1)
	puts(t, c, 3, 1, api.OK)
	gets(t, c, 5, 1005)
	has(t, c, 5)
	dirty(t, c)
	allOnDisk(t, d, 1000, 1001, 1002, 1, 1004, 1005)

	c, d = newCache(t, 6, 1)
	puts(t, c, 3, 1, api.OK)
	pins(t, c, 3, api.OK)
	changesNothing(t, c, d, func() { getFails(t, c, 5, api.ErrFull) })
	has(t, c, 3)
	dirty(t, c, 3)
	onDisk(t, d, 3, 1003)
}

// orders returns the orders in which n sectors can be used.
func orders(n int) [][]int {
	if n == 0 {
		return [][]int{nil}
	}
	var l [][]int
	for _, o := range orders(n - 1) {
		for i := range n {
			l = append(l, slices.Insert(slices.Clone(o), i, n-1))
		}
	}
	return l
}

func TestTheLeastRecentlyUsedSectorGoes(t *testing.T) {
	for room := 1; room <= 5; room++ {
		for _, o := range orders(room) {
			c, _ := newCache(t, 2*room, room)
			for i := range room {
				gets(t, c, i, 1000+i)
			}
			for n, i := range o {
				if n%2 == 0 {
					gets(t, c, i, 1000+i)
				} else {
					puts(t, c, i, i+1, api.OK)
				}
			}
			for n := range room {
				if n%2 == 0 {
					puts(t, c, room+n, 1, api.OK)
				} else {
					gets(t, c, room+n, 1000+room+n)
				}
				want := slices.Clone(o[n+1:])
				for k := range n + 1 {
					want = append(want, room+k)
				}
				slices.Reverse(want)
				has(t, c, want...)
			}
		}
	}
}

// Of the sectors that are not pinned, the least recently used one goes, for each choice of pinned ones.
func TestPinnedSectorsStay(t *testing.T) {
	for pinned := range 32 {
		for _, put := range []bool{false, true} {
			c, d := newCache(t, 12, 5)
			var stay, leave []int
			for _, i := range []int{3, 0, 4, 1, 2} {
				puts(t, c, i, i+1, api.OK)
				if pinned>>i&1 == 1 {
					pins(t, c, i, api.OK)
					stay = append(stay, i)
				} else {
					leave = append(leave, i)
				}
			}
			for n, i := range leave {
				if put {
					puts(t, c, 5+n, 50+n, api.OK)
				} else {
					gets(t, c, 5+n, 1005+n)
				}
				onDisk(t, d, i, i+1)
				if slices.Contains(c.Has(), i) {
					t.Errorf("sector %d is cached: %v", i, c.Has())
				}
				for _, k := range slices.Concat(stay, leave[n+1:]) {
					onDisk(t, d, k, 1000+k)
					if !slices.Contains(c.Has(), k) {
						t.Errorf("sector %d is not cached: %v", k, c.Has())
					}
				}
			}
			if l := c.Has(); len(l) != 5 {
				t.Errorf("%d cached: %v", len(l), l)
			}
		}
	}
}

func TestAllCachedSectorsPinned(t *testing.T) {
	for room := 1; room <= 4; room++ {
		c, d := newCache(t, 8, room)
		for i := range room {
			if i%2 == 0 {
				puts(t, c, i, i+1, api.OK)
			} else {
				gets(t, c, i, 1000+i)
			}
			pins(t, c, i, api.OK)
		}
		full := func() {
			for i := room; i < 7; i++ {
				getFails(t, c, i, api.ErrFull)
				puts(t, c, i, 99, api.ErrFull)
			}
		}
		changesNothing(t, c, d, full)
		// What is cached needs no room.
		for i := range room {
			puts(t, c, i, 20+i, api.OK)
			gets(t, c, i, 20+i)
		}
		off(t, d)
		changesNothing(t, c, d, full)
		d.Crash(0)
		for i := range room {
			onDisk(t, d, i, 1000+i)
		}
		last := room - 1
		unpins(t, c, last, api.OK)
		gets(t, c, 7, 1007)
		onDisk(t, d, last, 20+last)
		pins(t, c, last, api.ErrNone)
		pins(t, c, 7, api.OK)
		changesNothing(t, c, d, full)
	}
}

// An eviction writes a dirty sector, and does not flush the disk; a clean one is not written.
func TestEvictionWritesWhatIsDirty(t *testing.T) {
	for _, put := range []bool{false, true} {
		c, d := newCache(t, 6, 2)
		next := func(sector int) {
			if put {
				puts(t, c, sector, 70+sector, api.OK)
			} else {
				gets(t, c, sector, 1000+sector)
			}
		}
		puts(t, c, 0, 1, api.OK)
		gets(t, c, 1, 1001)
		does(t, d, 1, func() { next(2) })
		has(t, c, 2, 1)
		allOnDisk(t, d, 1, 1001, 1002, 1003, 1004, 1005)
		safeOnDisk(t, d, 1000, 1001, 1002, 1003, 1004, 1005)
		does(t, d, 0, func() { next(3) })
		has(t, c, 3, 2)
		allOnDisk(t, d, 1, 1001, 1002, 1003, 1004, 1005)
		if put {
			dirty(t, c, 2, 3)
		} else {
			dirty(t, c)
		}
	}
}

// A sector that was flushed is clean: its eviction writes nothing, and it is read again with what was put.
func TestEvictionOfAFlushedSector(t *testing.T) {
	c, d := newCache(t, 3, 1)
	puts(t, c, 0, 1, api.OK)
	flushes(t, c, api.OK)
	does(t, d, 0, func() { gets(t, c, 1, 1001) })
	does(t, d, 0, func() { gets(t, c, 0, 1) })
	dirty(t, c)
	safeOnDisk(t, d, 1, 1001, 1002)
}

// A sector that comes back has neither the pins nor the dirt that it had.
func TestAnEvictedSectorComesBackClean(t *testing.T) {
	c, d := newCache(t, 3, 1)
	puts(t, c, 0, 1, api.OK)
	pins(t, c, 0, api.OK)
	unpins(t, c, 0, api.OK)
	gets(t, c, 1, 1001)
	pins(t, c, 0, api.ErrNone)
	unpins(t, c, 0, api.ErrNone)
	gets(t, c, 0, 1)
	unpins(t, c, 0, api.ErrNone)
	dirty(t, c)
	does(t, d, 0, func() { puts(t, c, 2, 2, api.OK) })
	does(t, d, 1, func() { puts(t, c, 0, 3, api.OK) })
	unpins(t, c, 0, api.ErrNone)
	allOnDisk(t, d, 1, 1001, 2)
}

// A sector that was evicted for another one remains evicted when that one can't be read.
func TestEvictionForAReadThatFails(t *testing.T) {
	c, d := newCache(t, 8, 3)
	gets(t, c, 0, 1000)
	gets(t, c, 1, 1001)
	gets(t, c, 2, 1002)
	pins(t, c, 1, api.OK)
	off(t, d)
	getFails(t, c, 5, api.ErrDead)
	has(t, c, 2, 1)
	// There is room now, so that nothing else goes.
	getFails(t, c, 6, api.ErrDead)
	getFails(t, c, 0, api.ErrDead)
	has(t, c, 2, 1)
	puts(t, c, 0, 1, api.OK)
	getFails(t, c, 6, api.ErrDead)
	has(t, c, 0, 1)
	puts(t, c, 3, 2, api.OK)
	has(t, c, 3, 0, 1)
	d.Crash(0)
	gets(t, c, 5, 1005)
	has(t, c, 5, 3, 1)
	dirty(t, c, 3)
	allOnDisk(t, d, 1, 1001, 1002, 1003, 1004, 1005, 1006, 1007)
}

func TestPowerFailureWithinAnEviction(t *testing.T) {
	for _, put := range []bool{false, true} {
		c, d := newCache(t, 6, 3)
		puts(t, c, 0, 1, api.OK)
		gets(t, c, 1, 1001)
		puts(t, c, 2, 2, api.OK)
		d.Cut(0)
		step := func(want api.Errno) {
			if put {
				puts(t, c, 5, 3, want)
			} else if want == api.OK {
				gets(t, c, 5, 1005)
			} else {
				getFails(t, c, 5, want)
			}
		}
		for range 3 {
			step(api.ErrDead)
			has(t, c, 2, 1, 0)
			dirty(t, c, 0, 2)
		}
		if !d.Dead() {
			t.Errorf("the eviction made no operation")
		}
		d.Crash(all)
		allOnDisk(t, d, 1000, 1001, 1002, 1003, 1004, 1005)
		gets(t, c, 0, 1)
		gets(t, c, 2, 2)
		has(t, c, 2, 0, 1)
		gets(t, c, 1, 1001)
		step(api.OK)
		has(t, c, 5, 1, 2)
		onDisk(t, d, 0, 1)
	}
}

// The dirty sector whose turn it is keeps the clean ones from being evicted in its place; a clean one goes without power.
func TestEvictionWithoutPower(t *testing.T) {
	c, d := newCache(t, 6, 3)
	puts(t, c, 0, 1, api.OK)
	gets(t, c, 1, 1001)
	gets(t, c, 2, 1002)
	off(t, d)
	changesNothing(t, c, d, func() {
		puts(t, c, 3, 2, api.ErrDead)
		getFails(t, c, 4, api.ErrDead)
	})
	gets(t, c, 0, 1)
	puts(t, c, 3, 2, api.OK)
	has(t, c, 3, 0, 2)
	dirty(t, c, 0, 3)
	getFails(t, c, 4, api.ErrDead)
	has(t, c, 3, 0)
	puts(t, c, 5, 3, api.OK)
	changesNothing(t, c, d, func() { puts(t, c, 1, 4, api.ErrDead) })
	pins(t, c, 0, api.OK)
	pins(t, c, 3, api.OK)
	pins(t, c, 5, api.OK)
	changesNothing(t, c, d, func() { puts(t, c, 1, 4, api.ErrFull) })
}

func TestManyEvictionsOfTheGreatestDisk(t *testing.T) {
	for _, room := range []int{1, 2, 64, 4095} {
		c, d := newCache(t, 4096, room)
		for n := range 2 {
			for i := range 4096 {
				puts(t, c, i, 5000+4096*n+i, api.OK)
			}
		}
		if d.Done() != 4097+2*4096-room || len(c.Has()) != room {
			t.Errorf("room %d: %d operations, %d cached", room, d.Done(), len(c.Has()))
		}
		// The last ones are cached, and the disk has them from the first time.
		for i := range 4096 {
			if i < 4096-room {
				onDisk(t, d, i, 5000+4096+i)
			} else {
				onDisk(t, d, i, 5000+i)
			}
		}
		for i := range 4096 {
			gets(t, c, i, 5000+4096+i)
		}
	}
}

// P6.3

func TestPinsAreCounted(t *testing.T) {
	for _, n := range []int{1, 2, 3, 10, 255, 256, 257, 65535, 65536, 65537} {
		c, _ := newCache(t, 3, 1)
		gets(t, c, 0, 1000)
		for range n {
			pins(t, c, 0, api.OK)
		}
		for range n {
			getFails(t, c, 1, api.ErrFull)
			unpins(t, c, 0, api.OK)
		}
		unpins(t, c, 0, api.ErrNone)
		unpins(t, c, 0, api.ErrNone)
		pins(t, c, 0, api.OK)
		getFails(t, c, 1, api.ErrFull)
		unpins(t, c, 0, api.OK)
		gets(t, c, 1, 1001)
	}
}

func TestPinsOfEachSectorAreItsOwn(t *testing.T) {
	c, _ := newCache(t, 4, 3)
	for i := range 3 {
		gets(t, c, i, 1000+i)
		for range i {
			pins(t, c, i, api.OK)
		}
	}
	for i := range 3 {
		for range i {
			unpins(t, c, i, api.OK)
		}
		unpins(t, c, i, api.ErrNone)
	}
}

func TestPinAndUnpinOfWhatIsNotCached(t *testing.T) {
	c, d := newCache(t, 5, 2)
	gets(t, c, 0, 1000)
	puts(t, c, 1, 1, api.OK)
	gets(t, c, 2, 1002)
	refuse := func() {
		for _, at := range append(wrongSectors(5), 0, 3, 4) {
			pins(t, c, at, api.ErrNone)
			unpins(t, c, at, api.ErrNone)
		}
		unpins(t, c, 1, api.ErrNone)
		unpins(t, c, 2, api.ErrNone)
	}
	changesNothing(t, c, d, refuse)
	off(t, d)
	changesNothing(t, c, d, refuse)
	d.Crash(0)
	// A Pin that was refused must not be remembered.
	gets(t, c, 0, 1000)
	gets(t, c, 3, 1003)
	gets(t, c, 4, 1004)
	has(t, c, 4, 3)
}

// Pin, Unpin, Flush, Has and Dirty are no uses of a sector.
func TestOnlyGetAndPutAreUses(t *testing.T) {
	c, _ := newCache(t, 4, 3)
	puts(t, c, 2, 1, api.OK)
	puts(t, c, 0, 2, api.OK)
	puts(t, c, 1, 3, api.OK)
	for _, i := range []int{0, 2, 1, 2} {
		pins(t, c, i, api.OK)
		has(t, c, 1, 0, 2)
		dirty(t, c, 0, 1, 2)
	}
	for _, i := range []int{2, 1, 0, 2} {
		unpins(t, c, i, api.OK)
		has(t, c, 1, 0, 2)
	}
	flushes(t, c, api.OK)
	has(t, c, 1, 0, 2)
	dirty(t, c)
	gets(t, c, 3, 1003)
	has(t, c, 3, 1, 0)
}

func TestFlushWritesWhatIsDirty(t *testing.T) {
	c, d := newCache(t, 6, 5)
	puts(t, c, 4, 1, api.OK)
	gets(t, c, 1, 1001)
	puts(t, c, 0, 2, api.OK)
	puts(t, c, 3, 3, api.OK)
	does(t, d, 4, func() { flushes(t, c, api.OK) })
	has(t, c, 3, 0, 1, 4)
	dirty(t, c)
	safeOnDisk(t, d, 2, 1001, 1002, 3, 1, 1005)
	for range 3 {
		does(t, d, 1, func() { flushes(t, c, api.OK) })
	}
	puts(t, c, 3, 4, api.OK)
	dirty(t, c, 3)
	does(t, d, 2, func() { flushes(t, c, api.OK) })
	safeOnDisk(t, d, 2, 1001, 1002, 4, 1, 1005)
}

func TestFlushOfAnEmptyCache(t *testing.T) {
	c, d := newCache(t, 2, 1)
	if e := d.Write(patch(1, 1)); e != api.OK {
		t.Fatalf("Write: error %d", e)
	}
	does(t, d, 1, func() { flushes(t, c, api.OK) })
	safeOnDisk(t, d, 1000, 1)
	off(t, d)
	flushes(t, c, api.ErrDead)
	d.Crash(0)
	flushes(t, c, api.OK)
}

// What was evicted is safe after a Flush, also if that writes nothing.
func TestFlushMakesEvictedSectorsSafe(t *testing.T) {
	for _, pinned := range []bool{false, true} {
		c, d := newCache(t, 3, 1)
		puts(t, c, 0, 1, api.OK)
		puts(t, c, 1, 2, api.OK)
		safeOnDisk(t, d, 1000, 1001, 1002)
		want := []int{1, 2, 1002}
		if pinned {
			pins(t, c, 1, api.OK)
			want[1] = 1001
		}
		flushes(t, c, api.OK)
		safeOnDisk(t, d, want...)
	}
}

// For each choice of dirty and of pinned sectors, a Flush writes those that are dirty and not pinned.
func TestFlushLeavesPinnedSectorsDirty(t *testing.T) {
	for put := range 32 {
		for pinned := range 32 {
			c, d := newCache(t, 5, 5)
			var left, done []int
			want := []int{1000, 1001, 1002, 1003, 1004}
			for _, i := range []int{3, 0, 4, 1, 2} {
				gets(t, c, i, 1000+i)
				if pinned>>i&1 == 1 {
					pins(t, c, i, api.OK)
				}
				if put>>i&1 == 1 {
					puts(t, c, i, i+1, api.OK)
				}
			}
			for i := range 5 {
				if put&pinned>>i&1 == 1 {
					left = append(left, i)
				} else if put>>i&1 == 1 {
					done = append(done, i)
					want[i] = i + 1
				}
			}
			does(t, d, len(done)+1, func() { flushes(t, c, api.OK) })
			dirty(t, c, left...)
			safeOnDisk(t, d, want...)
			for _, i := range left {
				gets(t, c, i, i+1)
				unpins(t, c, i, api.OK)
				want[i] = i + 1
			}
			does(t, d, len(left)+1, func() { flushes(t, c, api.OK) })
			dirty(t, c)
			safeOnDisk(t, d, want...)
		}
	}
}

// A Flush writes in increasing order, whatever the order of the Puts: after each cut, a first part of that order is written and clean.
func TestPowerFailureWithinAFlush(t *testing.T) {
	for _, o := range orders(4) {
		for after := range 6 {
			c, d := newCache(t, 9, 5)
			sectors := []int{1, 2, 5, 8}
			want := []int{1000, 1001, 1002, 1003, 1004, 1005, 1006, 1007, 1008}
			for _, k := range o {
				puts(t, c, sectors[k], k+1, api.OK)
			}
			puts(t, c, 4, 9, api.OK)
			pins(t, c, 4, api.OK)
			h := c.Has()
			d.Cut(after)
			if after == 5 {
				flushes(t, c, api.OK)
				after = 4
			} else {
				does(t, d, after, func() { flushes(t, c, api.ErrDead) })
			}
			left := []int{4}
			for k, i := range sectors {
				if k < after {
					want[i] = k + 1
				} else {
					left = append(left, i)
				}
			}
			slices.Sort(left)
			dirty(t, c, left...)
			has(t, c, h...)
			d.Crash(all)
			allOnDisk(t, d, want...)
			for k, i := range sectors {
				gets(t, c, i, k+1)
			}
			gets(t, c, 4, 9)
			flushes(t, c, api.OK)
			dirty(t, c, 4)
			safeOnDisk(t, d, 1000, 1, 2, 1003, 1004, 3, 1006, 1007, 4)
		}
	}
}

// The disk numbers the writes of a Flush as the sectors are: write i survives by bit i.
func TestFlushWritesInIncreasingOrder(t *testing.T) {
	for _, o := range orders(4) {
		for there := range uint64(16) {
			c, d := newCache(t, 4, 4)
			for _, i := range o {
				puts(t, c, i, i+1, api.OK)
			}
			d.Cut(4)
			flushes(t, c, api.ErrDead)
			dirty(t, c)
			d.Crash(there)
			for i := range 4 {
				if there>>i&1 == 1 {
					onDisk(t, d, i, i+1)
				} else {
					onDisk(t, d, i, 1000+i)
				}
				gets(t, c, i, i+1)
			}
		}
	}
}

func TestFlushInIncreasingOrderOfManySectors(t *testing.T) {
	for _, after := range []int{0, 1, 2047, 2048, 4095, 4096} {
		d := newDisk(t, 4096)
		c := cacheOf(t, d, 4096)
		var want []int
		for i := range 4096 {
			puts(t, c, i*1367%4096, i*1367%4096+1, api.OK)
			if i >= after {
				want = append(want, i)
			}
		}
		d.Cut(after)
		flushes(t, c, api.ErrDead)
		dirty(t, c, want...)
		d.Crash(all)
		for i := range 4096 {
			onDisk(t, d, i, (i+1)*min(1, max(0, after-i)))
		}
	}
}

func TestFlushWhileThePowerIsOff(t *testing.T) {
	c, d := newCache(t, 3, 3)
	puts(t, c, 1, 1, api.OK)
	gets(t, c, 2, 1002)
	off(t, d)
	changesNothing(t, c, d, func() { flushes(t, c, api.ErrDead) })
	pins(t, c, 1, api.OK)
	changesNothing(t, c, d, func() { flushes(t, c, api.ErrDead) })
	d.Crash(0)
	allOnDisk(t, d, 1000, 1001, 1002)
	unpins(t, c, 1, api.OK)
	flushes(t, c, api.OK)
	safeOnDisk(t, d, 1000, 1, 1002)
}

func TestHasAndDirty(t *testing.T) {
	c, _ := newCache(t, 20, 10)
	for _, i := range []int{12, 3, 19, 0, 7, 11, 2, 10, 1, 9} {
		if i%3 == 0 {
			gets(t, c, i, 1000+i)
		} else {
			puts(t, c, i, 1, api.OK)
		}
	}
	for range 2 {
		has(t, c, 9, 1, 10, 2, 11, 7, 0, 19, 3, 12)
		dirty(t, c, 1, 2, 7, 10, 11, 19)
	}
}

func TestNilCache(t *testing.T) {
	var c *cache.Cache
	for _, p := range append(wrongPatches(3), patch(0, 1), patch(2, 0)) {
		if e := c.Put(p); e != api.ErrNone {
			t.Errorf("Put of sector %d: error %d", p.Sector, e)
		}
	}
	for _, at := range append(wrongSectors(3), 0, 1, 2) {
		getFails(t, c, at, api.ErrNone)
		pins(t, c, at, api.ErrNone)
		unpins(t, c, at, api.ErrNone)
	}
	flushes(t, c, api.ErrNone)
	has(t, c)
	dirty(t, c)
}
