package volume_test

import (
	"bytes"
	"slices"
	"testing"

	"moat/api"
	"moat/volume"
)

// owns makes sure of the owner of each group: 0, or the row and 1.
func owns(t *testing.T, v *volume.Volume, want ...int) {
	t.Helper()
	if l := v.Meta().Owners; !slices.Equal(l, want) {
		t.Errorf("Owners: got %v, want %v", l, want)
	}
}

// allocates fails the test unless Alloc returns that.
func allocates(t *testing.T, v *volume.Volume, a api.Label, want int, we api.Errno) {
	t.Helper()
	if n, e := v.Alloc(a); n != want || e != we {
		t.Errorf("Alloc of %d: got %d, error %d; want %d, error %d", a, n, e, want, we)
	}
}

// frees fails the test unless Free returns that.
func frees(t *testing.T, v *volume.Volume, block int, want api.Errno) {
	t.Helper()
	if e := v.Free(block); e != want {
		t.Errorf("Free of block %d: error %d, want %d", block, e, want)
	}
}

// has makes sure of the content of a block.
func has(t *testing.T, v *volume.Volume, block int, want []byte) {
	t.Helper()
	if b, e := v.Read(block); !bytes.Equal(b, want) || e != api.OK {
		t.Errorf("Read of block %d: got %v, error %d; want %v", block, b, e, want)
	}
}

// rowIs makes sure of a row.
func rowIs(t *testing.T, v *volume.Volume, row int, want api.Row) {
	t.Helper()
	if r := v.Meta().Rows[row]; r != want {
		t.Errorf("row %d: got %v, want %v", row, r, want)
	}
}

// P15.3: Alloc

// The example of the chapter.
func TestExample(t *testing.T) {
	v := mounts(t, formatted(t, example, 0))
	allocates(t, v, 2, 0, api.OK)
	allocates(t, v, 4, 4, api.OK)
	allocates(t, v, 2, 1, api.OK)
	owns(t, v, 1, 2)
	rowIs(t, v, 0, api.Row{Label: 2, Refs: 1})
	frees(t, v, 0, api.OK)
	owns(t, v, 1, 2)
	frees(t, v, 1, api.OK)
	owns(t, v, 0, 2)
	rowIs(t, v, 0, api.Row{})
	allocates(t, v, 8, 0, api.OK)
	owns(t, v, 1, 2)
	rowIs(t, v, 0, api.Row{Label: 8, Refs: 1})
}

func TestAllocTakesTheFirstBlock(t *testing.T) {
	v := mounts(t, formatted(t, api.Geo{Journal: 100, Inodes: 8, Groups: 4, PerGroup: 3}, 0))
	for i, x := range []struct {
		a    api.Label
		want int
	}{{0, 0}, {65535, 3}, {0, 1}, {0, 2}, {65535, 4}, {0, 6}, {7, 9}, {65535, 5}, {0, 7}} {
		allocates(t, v, x.a, x.want, api.OK)
		if t.Failed() {
			t.Fatalf("call %d", i)
		}
	}
	owns(t, v, 1, 2, 1, 3)
	rowIs(t, v, 0, api.Row{Label: 0, Refs: 2})
	// What is free in the first of a label's groups comes ahead of what is free in the second one.
	frees(t, v, 6, api.OK)
	frees(t, v, 1, api.OK)
	allocates(t, v, 0, 1, api.OK)
	allocates(t, v, 0, 6, api.OK)
	allocates(t, v, 0, 8, api.OK)
	allocates(t, v, 0, 0, api.ErrFull)
	allocates(t, v, 65535, 0, api.ErrFull)
	allocates(t, v, 8, 0, api.ErrFull)
	allocates(t, v, 7, 10, api.OK)
}

// A label does not get what belongs to one that is more, or less, or none.
func TestAllocKeepsLabelsApart(t *testing.T) {
	g := api.Geo{Journal: 200, Inodes: 8, Groups: 16, PerGroup: 4}
	v := mounts(t, formatted(t, g, 0))
	labels := []api.Label{0, 1, 2, 3, 4, 256, 257, 32768, 65535, 65534, 255, 7, 5, 6, 8, 9}
	for i, a := range labels {
		allocates(t, v, a, 4*i, api.OK)
	}
	for i, a := range labels {
		allocates(t, v, a, 4*i+1, api.OK)
	}
	owns(t, v, 1, 2, 3, 4, 5, 6, 7, 8, 9, 10, 11, 12, 13, 14, 15, 16)
}

func TestAllocOfEachBlock(t *testing.T) {
	for _, g := range geometries() {
		p := newPair(t, g)
		for i := range p.m.count() {
			if n := p.alloc(5); n != i {
				t.Fatalf("Alloc: got %d, want %d", n, i)
			}
		}
		p.alloc(5)
		p.alloc(6)
		rowIs(t, p.v, 0, api.Row{Label: 5, Refs: g.Groups})
		p.matches()
		for i := p.m.count() - 1; i >= 0; i -= 2 {
			p.free(i)
		}
		for range p.m.count() {
			p.alloc(6)
			p.alloc(5)
		}
		p.matches()
	}
}

// Sixteen labels have the rows, in groups and in inodes; a further one gets no group, though there are some.
func TestAllocWithoutARow(t *testing.T) {
	g := fitting(10, 12, 2)
	p := newPair(t, g)
	for i := range 10 {
		p.alloc(api.Label(i))
	}
	for i := range 6 {
		p.make(1, api.Label(20+i))
	}
	was := p.v.Meta()
	allocates(t, p.v, 100, 0, api.ErrFull)
	if !sameMeta(p.v.Meta(), was) {
		t.Errorf("Alloc changed %v to %v", was, p.v.Meta())
	}
	p.alloc(100)
	// A label that has a row, but no group yet, gets one.
	allocates(t, p.v, 25, 20, api.OK)
	p.m.alloc(25)
	p.alloc(0)
	p.alloc(0)
	p.alloc(100)
	p.matches()
	// Once a row is free, the label gets it.
	p.unmake(0)
	p.free(22)
	p.alloc(100)
	p.matches()
	rowIs(t, p.v, 10, api.Row{Label: 100, Refs: 1})
}

// A row that is needed as often as may be gives no group away, but blocks of the groups that its label has.
func TestAllocWithAllReferences(t *testing.T) {
	g := fitting(8, 3, 2)
	m := owned(g)
	m.Owners[1], m.Owners[2] = 0, 0
	m.Used = padded([]byte{2}, size)
	m.Rows = make([]api.Row, table)
	m.Rows[0] = api.Row{Label: 6, Refs: 65535}
	m.Inodes = make([]api.Inode, 8)
	v := mounts(t, holding(t, g, m))
	allocates(t, v, 6, 0, api.OK)
	was := v.Meta()
	for range 2 {
		allocates(t, v, 6, 0, api.ErrLong)
		if i, e := v.Make(1, 6); i != 0 || e != api.ErrLong {
			t.Errorf("Make: got %d, error %d", i, e)
		}
	}
	if !sameMeta(v.Meta(), was) || v.Dirty() != 0 {
		t.Errorf("Alloc and Make changed %v to %v", was, v.Meta())
	}
	allocates(t, v, 1, 2, api.OK)
	allocates(t, v, 2, 4, api.OK)
	// With no group left, there is none to retain a row for.
	allocates(t, v, 6, 0, api.ErrFull)
}

// An owner that has no block in use is an owner still.
func TestAllocInAGroupWithoutBlocksInUse(t *testing.T) {
	g := fitting(8, 3, 2)
	m := empty(g)
	m.Rows[4] = api.Row{Label: 6, Refs: 1}
	m.Owners[1] = 5
	v := mounts(t, holding(t, g, m))
	allocates(t, v, 6, 2, api.OK)
	allocates(t, v, 5, 0, api.OK)
	allocates(t, v, 6, 3, api.OK)
	frees(t, v, 2, api.OK)
	frees(t, v, 3, api.OK)
	owns(t, v, 1, 0, 0)
	rowIs(t, v, 4, api.Row{})
}

// A block that is taken is bytes 0: a fresh one, one that was written and freed, and one of which the disk had other bytes.
func TestAllocReturnsBytes0(t *testing.T) {
	for _, syncs := range []int{0, 1, 2, 3} {
		p := newPair(t, example)
		for i := range 8 {
			b := p.alloc(1)
			has(t, p.v, b, make([]byte, size))
			p.write(b, sector(i))
		}
		if syncs&1 > 0 {
			p.sync()
		}
		for i := range 8 {
			p.free(i)
			has(t, p.v, i, make([]byte, size))
		}
		if syncs&2 > 0 {
			p.sync()
		}
		for i := range 8 {
			b := p.alloc(api.Label(2 + i/4))
			if b != i {
				t.Fatalf("Alloc: got %d, want %d", b, i)
			}
			has(t, p.v, b, make([]byte, size))
		}
		p.matches()
	}
}

// P15.3: Free

func TestFreeOfOtherBlocks(t *testing.T) {
	for _, g := range geometries() {
		p := newPair(t, g)
		count := p.m.count()
		for range (count + 1) / 2 {
			p.alloc(3)
		}
		was := p.v.Meta()
		for _, i := range append([]int{-1, count, count + 1, 512, 513, 4096}, extremes...) {
			frees(t, p.v, i, api.ErrArg)
			if e := p.v.Write(i, sector(1)); e != api.ErrArg {
				t.Errorf("Write to block %d: error %d", i, e)
			}
			if b, e := p.v.Read(i); len(b) != 0 || e != api.ErrArg {
				t.Errorf("Read of block %d: got %v, error %d", i, b, e)
			}
		}
		for i := (count + 1) / 2; i < count; i++ {
			frees(t, p.v, i, api.ErrNone)
			if e := p.v.Write(i, sector(1)); e != api.ErrNone {
				t.Errorf("Write to block %d: error %d", i, e)
			}
			has(t, p.v, i, make([]byte, size))
		}
		if p.v.Dirty() != 0 || !sameMeta(p.v.Meta(), was) {
			t.Errorf("%d dirty blocks, %v; want %v", p.v.Dirty(), p.v.Meta(), was)
		}
		p.matches()
	}
}

func TestFreeTwice(t *testing.T) {
	v := mounts(t, formatted(t, example, 0))
	allocates(t, v, 1, 0, api.OK)
	allocates(t, v, 1, 1, api.OK)
	frees(t, v, 1, api.OK)
	frees(t, v, 1, api.ErrNone)
	owns(t, v, 1, 0)
	frees(t, v, 0, api.OK)
	frees(t, v, 0, api.ErrNone)
	owns(t, v, 0, 0)
	if v.Dirty() != 2 {
		t.Errorf("%d dirty blocks", v.Dirty())
	}
}

// The last block of a group that is freed takes the owner with it, whichever block that is, and no other group's.
func TestFreeOfTheLastBlock(t *testing.T) {
	for _, g := range []api.Geo{least, example, single, roomy} {
		for last := range g.PerGroup {
			p := newPair(t, g)
			for range p.m.count() {
				p.alloc(9)
			}
			p.make(1, 9)
			for group := range g.Groups {
				for i := range g.PerGroup {
					if i != last {
						p.free(group*g.PerGroup + i)
					}
				}
				if owner := p.v.Meta().Owners[group]; owner != 1 {
					t.Fatalf("group %d: owner %d", group, owner)
				}
				p.free(group*g.PerGroup + last)
				if owner := p.v.Meta().Owners[group]; owner != 0 {
					t.Fatalf("group %d: owner %d", group, owner)
				}
				rowIs(t, p.v, 0, api.Row{Label: 9, Refs: g.Groups - group})
			}
			p.matches()
			p.unmake(0)
			rowIs(t, p.v, 0, api.Row{})
		}
	}
}

// A disk may come with fewer references than there are: then a row is free before its last owner is gone, and stays so.
func TestFewerReferencesThanOwners(t *testing.T) {
	g := fitting(4, 2, 2)
	m := empty(g)
	m.Rows[2] = api.Row{Label: 6, Refs: 1}
	m.Owners = []int{3, 3}
	m.Used = padded([]byte{5}, size)
	m.Inodes[0], m.Inodes[1] = api.Inode{Kind: 1, Row: 2}, api.Inode{Kind: 2, Row: 2}
	for _, order := range [][]int{{0, 1, 2, 3}, {3, 2, 1, 0}, {1, 3, 0, 2}} {
		v := mounts(t, holding(t, g, m))
		for _, k := range order {
			if k < 2 {
				frees(t, v, 2*k, api.OK)
			} else if e := v.Unmake(k - 2); e != api.OK {
				t.Errorf("Unmake: error %d", e)
			}
			rowIs(t, v, 2, api.Row{})
		}
		if !sameMeta(v.Meta(), empty(g)) {
			t.Errorf("Meta: got %v", v.Meta())
		}
		if e := v.Sync(); e != api.OK {
			t.Errorf("Sync: error %d", e)
		}
	}
}

// P15.3: Read, Write, Dirty

func TestWriteOfEachLength(t *testing.T) {
	v := mounts(t, formatted(t, example, 0))
	allocates(t, v, 1, 0, api.OK)
	for n := range 300 {
		long := bytes.Repeat([]byte{byte(n)}, n)
		want := []api.Errno{api.ErrArg, api.ErrArg, api.ErrArg}
		if n == size {
			want = []api.Errno{api.OK, api.ErrNone, api.ErrArg}
		}
		for i, block := range []int{0, 1, 8} {
			if e := v.Write(block, long); e != want[i] {
				t.Errorf("Write of %d bytes to block %d: error %d, want %d", n, block, e, want[i])
			}
		}
		if d := v.Dirty(); (d == 1) != (n >= size) {
			t.Errorf("Dirty behind %d bytes: got %d", n, d)
		}
	}
	if e := v.Write(0, nil); e != api.ErrArg {
		t.Errorf("Write of nil: error %d", e)
	}
	has(t, v, 0, bytes.Repeat([]byte{size}, size))
}

// Dirty counts blocks, not what is done to them: what was written is to be written again if it is the same, and bytes 0 are, too.
func TestDirtyCountsBlocks(t *testing.T) {
	p := newPair(t, example)
	count := func(want int) {
		t.Helper()
		if n := p.v.Dirty(); n != want {
			t.Errorf("Dirty: got %d, want %d", n, want)
		}
	}
	count(0)
	a, b := p.alloc(1), p.alloc(1)
	count(0)
	p.write(a, sector(1))
	p.write(a, sector(1))
	p.write(a, sector(2))
	count(1)
	p.free(b)
	count(2)
	p.free(a)
	count(2)
	p.alloc(2)
	count(2)
	p.sync()
	count(0)
	p.write(a, make([]byte, size))
	count(1)
	p.sync()
	count(0)
	p.matches()
}

func TestReadOfEachBlock(t *testing.T) {
	for _, g := range geometries() {
		p := newPair(t, g)
		for i := range p.m.count() {
			p.write(p.alloc(1), sector(i))
		}
		p.matches()
		if room(g.Journal) < p.m.count()+parts(g) {
			continue
		}
		p.sync()
		p.matches()
		for i := range p.m.count() {
			has(t, p.v, i, sector(i))
		}
	}
}

// Without power, those contents are known still that are not on the disk.
func TestReadWithoutPower(t *testing.T) {
	p := newPair(t, example)
	for i := range 3 {
		p.write(p.alloc(1), sector(i))
	}
	p.sync()
	p.write(1, sector(9))
	p.free(2)
	off(t, p.d)
	off(t, p.m.d)
	p.matches()
	has(t, p.v, 1, sector(9))
	has(t, p.v, 2, make([]byte, size))
	if b, e := p.v.Read(0); len(b) != 0 || e != api.ErrDead {
		t.Errorf("Read of block 0: got %v, error %d", b, e)
	}
	if _, e := p.v.Read(8); e != api.ErrArg {
		t.Errorf("Read of block 8: error %d", e)
	}
}

// What Read returns is the caller's, dirty or not, and what Write is given stays the caller's.
func TestBytesAreTheCallers(t *testing.T) {
	p := newPair(t, example)
	for range 2 {
		b := p.alloc(1)
		long := append(sector(4), sector(5)...)
		p.write(b, long[:size])
		if !bytes.Equal(long, append(sector(4), sector(5)...)) {
			t.Errorf("Write changed %v", long)
		}
		copy(long, bytes.Repeat([]byte{7}, 2*size))
		for range 2 {
			for i := range 8 {
				one, _ := p.v.Read(i)
				two, _ := p.v.Read(i)
				for k := range one[:cap(one)] {
					one[:cap(one)][k] = 255
				}
				if want, _ := p.m.read(i); !bytes.Equal(two, want) {
					t.Fatalf("Read of block %d shares its bytes", i)
				}
			}
			p.matches()
			p.sync()
		}
	}
}

// What lies behind the end of a slice is not written.
func TestWriteTakesWhatHasTheLength(t *testing.T) {
	v := mounts(t, formatted(t, example, 0))
	allocates(t, v, 1, 0, api.OK)
	long := append(sector(4), sector(5)...)
	if e := v.Write(0, long[:size-1]); e != api.ErrArg {
		t.Errorf("Write: error %d", e)
	}
	if e := v.Write(0, long[:size:size]); e != api.OK {
		t.Errorf("Write: error %d", e)
	}
	has(t, v, 0, sector(4))
}
