package file_test

import (
	"bytes"
	"math"
	"slices"
	"testing"

	"moat/api"
	"moat/disk"
	"moat/file"
	"moat/super"
	"moat/volume"
)

const (
	size  = 64   // bytes of a block
	most  = 3840 // bytes of the greatest file
	count = 60   // blocks of it
)

var (
	roomy  = api.Geo{Journal: 300, Inodes: 8, Groups: 64, PerGroup: 8}
	whole  = api.Geo{Journal: 300, Inodes: 6, Groups: 1, PerGroup: 512}
	single = api.Geo{Journal: 300, Inodes: 6, Groups: 64, PerGroup: 1}
	odd    = api.Geo{Journal: 300, Inodes: 4, Groups: 30, PerGroup: 5}
)

// extremes are far from all limits; most of them are within these if they are cut to fewer bits or have their sign taken away.
var extremes = []int{
	math.MinInt, math.MinInt + 1, math.MinInt + 64, -1<<32 + 1, -1 << 32, -1 << 31, -1 << 16, -3840, -512, -64, -8, -3, -2, -1,
	1 << 16, 1<<16 + 1, 1 << 31, 1 << 32, 1<<32 + 1, 1 << 62, 1<<62 + 64, math.MaxInt - 3840, math.MaxInt - 64, math.MaxInt - 1, math.MaxInt,
}

// edges are offsets in files at which something changes: their blocks end there, or the way to them is another.
var edges = []int{0, 1, 63, 64, 65, 127, 128, 447, 448, 449, 511, 512, 513, 575, 576, 577, 2495, 2496, 2497, 2559, 2560, 2561, 2623, 2624, 2625, 3775, 3776, 3777, 3839, 3840}

// full returns the geometry of a volume with n blocks in one group.
func full(n int) api.Geo { return api.Geo{Journal: 110, Inodes: 4, Groups: 1, PerGroup: n} }

// mounted returns an empty volume and its disk.
func mounted(t *testing.T, g api.Geo) (*volume.Volume, *disk.Disk) {
	t.Helper()
	l, e := super.Plan(g)
	if e != api.OK {
		t.Fatalf("Plan of %v: error %d", g, e)
	}
	d, _ := disk.New(l.All)
	if e := volume.Format(d, g); e != api.OK {
		t.Fatalf("Format for %v: error %d", g, e)
	}
	return mounts(t, d), d
}

// mounts returns the volume that must be on a disk.
func mounts(t *testing.T, d *disk.Disk) *volume.Volume {
	t.Helper()
	v, e := volume.Mount(d)
	if e != api.OK {
		t.Fatalf("Mount: error %d", e)
	}
	return v
}

// withFile returns a volume whose inode 0 is an empty file of label 6.
func withFile(t *testing.T, g api.Geo) *volume.Volume {
	t.Helper()
	v, _ := mounted(t, g)
	makes(t, v, api.KindFile, 6)
	return v
}

func makes(t *testing.T, v *volume.Volume, kind uint8, a api.Label) int {
	t.Helper()
	i, e := v.Make(kind, a)
	if e != api.OK {
		t.Fatalf("Make: error %d", e)
	}
	return i
}

// pattern returns n bytes other than 0 that belong to write c.
func pattern(c, n int) []byte {
	b := make([]byte, n)
	for i := range b {
		b[i] = byte(1 + (i+i/251+31*c)%255)
	}
	return b
}

// off takes the power away without an operation that is done.
func off(t *testing.T, d *disk.Disk) {
	t.Helper()
	d.Cut(0)
	if d.Flush() != api.ErrDead {
		t.Fatal("the power is still on")
	}
}

func begins(t *testing.T, v *volume.Volume) {
	t.Helper()
	if e := v.Begin(); e != api.OK {
		t.Fatalf("Begin: error %d", e)
	}
}

func syncs(t *testing.T, v *volume.Volume) {
	t.Helper()
	if e := v.Sync(); e != api.OK {
		t.Fatalf("Sync: error %d", e)
	}
}

// writes fails the test unless Write returns that.
func writes(t *testing.T, v *volume.Volume, i, at int, b []byte, want api.Errno) {
	t.Helper()
	if e := file.Write(v, i, at, b); e != want {
		t.Fatalf("Write of %d bytes at %d of %d: error %d, want %d", len(b), at, i, e, want)
	}
}

// cuts fails the test unless Cut returns that.
func cuts(t *testing.T, v *volume.Volume, i, n int, want api.Errno) {
	t.Helper()
	if e := file.Cut(v, i, n); e != want {
		t.Fatalf("Cut of %d to %d: error %d, want %d", i, n, e, want)
	}
}

// reads fails the test unless Read returns that.
func reads(t *testing.T, v *volume.Volume, i, at, n int, want []byte, we api.Errno) {
	t.Helper()
	if b, e := file.Read(v, i, at, n); !bytes.Equal(b, want) || e != we {
		t.Fatalf("Read of %d bytes at %d of %d: got %v, error %d; want %v, error %d", n, at, i, b, e, want, we)
	}
}

// has makes sure of all bytes of an inode.
func has(t *testing.T, v *volume.Volume, i int, want []byte) {
	t.Helper()
	reads(t, v, i, 0, math.MaxInt, want, api.OK)
	if n, _, _ := v.Inode(i); n.Size != len(want) {
		t.Fatalf("Size of %d: got %d, want %d", i, n.Size, len(want))
	}
}

// consists makes sure of the blocks of an inode.
func consists(t *testing.T, v *volume.Volume, i int, want ...int) {
	t.Helper()
	if l, e := file.Blocks(v, i); !slices.Equal(l, want) || e != api.OK {
		t.Fatalf("Blocks of %d: got %v, error %d; want %v", i, l, e, want)
	}
}

// uses makes sure of the blocks that are in use.
func uses(t *testing.T, v *volume.Volume, want ...int) {
	t.Helper()
	if l := inUse(v); !slices.Equal(l, want) {
		t.Fatalf("blocks in use: got %v, want %v", l, want)
	}
}

func inUse(v *volume.Volume) []int {
	var l []int
	for i, b := range v.Meta().Used {
		for k := range 8 {
			if b>>k&1 == 1 {
				l = append(l, 8*i+k)
			}
		}
	}
	return l
}

// to returns the numbers below n.
func to(n int) []int {
	l := make([]int, n)
	for i := range l {
		l[i] = i
	}
	return l
}

// dirties makes sure of the number of blocks to be written.
func dirties(t *testing.T, v *volume.Volume, want int) {
	t.Helper()
	if n := v.Dirty(); n != want {
		t.Fatalf("Dirty: got %d, want %d", n, want)
	}
}

// A picture is all that a volume tells of itself.
type picture struct {
	meta   api.Meta
	dirty  int
	blocks [][]byte
	errors []api.Errno
}

func pictured(v *volume.Volume) picture {
	p := picture{meta: v.Meta(), dirty: v.Dirty()}
	for i := range v.Geo().Groups * v.Geo().PerGroup {
		b, e := v.Read(i)
		p.blocks, p.errors = append(p.blocks, b), append(p.errors, e)
	}
	return p
}

// sameContents compares the inodes and the contents of two pictures, but not which blocks are in use.
func sameContents(t *testing.T, got, want picture) {
	t.Helper()
	if !slices.Equal(got.meta.Inodes, want.meta.Inodes) {
		t.Fatalf("inodes: got %v, want %v", got.meta.Inodes, want.meta.Inodes)
	}
	if got.dirty != want.dirty {
		t.Fatalf("Dirty: got %d, want %d", got.dirty, want.dirty)
	}
	for i := range want.blocks {
		if !bytes.Equal(got.blocks[i], want.blocks[i]) || got.errors[i] != want.errors[i] {
			t.Fatalf("block %d: got %v, error %d; want %v, error %d", i, got.blocks[i], got.errors[i], want.blocks[i], want.errors[i])
		}
	}
}

// samePicture compares two pictures.
func samePicture(t *testing.T, got, want picture) {
	t.Helper()
	sameContents(t, got, want)
	a, b := got.meta, want.meta
	if !slices.Equal(a.Rows, b.Rows) || !slices.Equal(a.Owners, b.Owners) || !bytes.Equal(a.Used, b.Used) {
		t.Fatalf("metadata: got %v, want %v", a, b)
	}
}

// sameDisk compares two disks.
func sameDisk(t *testing.T, d, o *disk.Disk) {
	t.Helper()
	if d.Dead() != o.Dead() || d.Done() != o.Done() {
		t.Fatalf("Dead and Done: got %v and %d, want %v and %d", d.Dead(), d.Done(), o.Dead(), o.Done())
	}
	for i := range o.Len() {
		b, e1 := d.Read(i)
		a, e2 := d.Tag(i)
		ob, o1 := o.Read(i)
		oa, o2 := o.Tag(i)
		if !bytes.Equal(b, ob) || a != oa || e1 != o1 || e2 != o2 {
			t.Fatalf("sector %d: got %v, tag %d, error %d; want %v, tag %d, error %d", i, b, a, e1, ob, oa, o1)
		}
	}
}

// dice are numbers that look like no rule, and are the same each time.
type dice uint64

func (x *dice) under(n int) int {
	*x = *x*6364136223846793005 + 1442695040888963407
	return int(uint64(*x) >> 33 % uint64(n))
}

// edge returns an offset at an edge or near to it, or any one.
func (x *dice) edge() int {
	if x.under(3) == 0 {
		return x.under(most + 1)
	}
	return edges[x.under(len(edges))]
}
