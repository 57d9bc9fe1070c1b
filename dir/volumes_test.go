package dir_test

import (
	"bytes"
	"math"
	"slices"
	"testing"

	"moat/api"
	"moat/dir"
	"moat/disk"
	"moat/file"
	"moat/super"
	"moat/volume"
)

const (
	per    = 16  // bytes of an entry
	inner  = 4   // entries of a block
	direct = 32  // entries of the direct blocks
	double = 160 // entries ahead of those that are reached through two blocks
	most   = 240 // entries of a directory at most
	size   = 64  // bytes of a block
)

var (
	roomy = api.Geo{Journal: 300, Inodes: 8, Groups: 64, PerGroup: 8}
	whole = api.Geo{Journal: 300, Inodes: 6, Groups: 1, PerGroup: 512}
	odd   = api.Geo{Journal: 300, Inodes: 4, Groups: 30, PerGroup: 5}
)

// extremes are far from all limits; most of them are within these if they are cut to fewer bits or have their sign taken away.
var extremes = []int{
	math.MinInt, math.MinInt + 1, math.MinInt + 64, -1<<32 + 1, -1 << 32, -1 << 31, -1 << 16, -256, -64, -8, -3, -2, -1,
	1 << 16, 1<<16 + 1, 1 << 31, 1 << 32, 1<<32 + 1, 1 << 62, 1<<62 + 64, math.MaxInt - 64, math.MaxInt - 1, math.MaxInt,
}

// full returns the geometry of a volume with n blocks in one group.
func full(n int) api.Geo { return api.Geo{Journal: 110, Inodes: 4, Groups: 1, PerGroup: n} }

// mounted returns an empty volume and its disk.
func mounted(t *testing.T, g api.Geo) (*volume.Volume, *disk.Disk) {
	t.Helper()
	l, e := super.Plan(g)
	if e != api.OK {
		t.Fatalf("Plan of %v: error %d", g, e)
	}
	d, _ := disk.New(l.All)
	if e := volume.Format(d, g); e != api.OK {
		t.Fatalf("Format for %v: error %d", g, e)
	}
	return mounts(t, d), d
}

// mounts returns the volume that must be on a disk.
func mounts(t *testing.T, d *disk.Disk) *volume.Volume {
	t.Helper()
	v, e := volume.Mount(d)
	if e != api.OK {
		t.Fatalf("Mount: error %d", e)
	}
	return v
}

func makes(t *testing.T, v *volume.Volume, kind uint8, a api.Label) int {
	t.Helper()
	i, e := v.Make(kind, a)
	if e != api.OK {
		t.Fatalf("Make: error %d", e)
	}
	return i
}

// withDir returns a volume whose inode 0 is an empty directory of label 6.
func withDir(t *testing.T, g api.Geo) *volume.Volume {
	t.Helper()
	v, _ := mounted(t, g)
	makes(t, v, api.KindDir, 6)
	return v
}

// withBytes returns a volume whose inode 0 is of kind directory, with any bytes.
func withBytes(t *testing.T, g api.Geo, b []byte) *volume.Volume {
	t.Helper()
	v := withDir(t, g)
	writes(t, v, 0, 0, b)
	return v
}

func begins(t *testing.T, v *volume.Volume) {
	t.Helper()
	if e := v.Begin(); e != api.OK {
		t.Fatalf("Begin: error %d", e)
	}
}

func syncs(t *testing.T, v *volume.Volume) {
	t.Helper()
	if e := v.Sync(); e != api.OK {
		t.Fatalf("Sync: error %d", e)
	}
}

// off takes the power away without an operation that is done.
func off(t *testing.T, d *disk.Disk) {
	t.Helper()
	d.Cut(0)
	if d.Flush() != api.ErrDead {
		t.Fatal("the power is still on")
	}
}

// writes changes the bytes of an inode without this package.
func writes(t *testing.T, v *volume.Volume, i, at int, b []byte) {
	t.Helper()
	if e := file.Write(v, i, at, b); e != api.OK {
		t.Fatalf("Write of %d bytes at %d of %d: error %d", len(b), at, i, e)
	}
}

// cuts changes the size of an inode without this package.
func cuts(t *testing.T, v *volume.Volume, i, n int) {
	t.Helper()
	if e := file.Cut(v, i, n); e != api.OK {
		t.Fatalf("Cut of %d to %d: error %d", i, n, e)
	}
}

// lists fails the test unless List returns that.
func lists(t *testing.T, v *volume.Volume, i int, want []api.Entry, we api.Errno) {
	t.Helper()
	if l, e := dir.List(v, i); !slices.Equal(l, want) || e != we {
		t.Fatalf("List of %d: got %v, error %d; want %v, error %d", i, l, e, want, we)
	}
}

// finds fails the test unless Find returns that.
func finds(t *testing.T, v *volume.Volume, i int, name string, want int, we api.Errno) {
	t.Helper()
	if n, e := dir.Find(v, i, name); n != want || e != we {
		t.Fatalf("Find of %q in %d: got %d, error %d; want %d, error %d", name, i, n, e, want, we)
	}
}

// adds fails the test unless Add returns that.
func adds(t *testing.T, v *volume.Volume, i int, name string, inode int, want api.Errno) {
	t.Helper()
	if e := dir.Add(v, i, api.Entry{Name: name, Inode: inode}); e != want {
		t.Fatalf("Add of %q, %d to %d: error %d, want %d", name, inode, i, e, want)
	}
}

// removes fails the test unless Remove returns that.
func removes(t *testing.T, v *volume.Volume, i int, name string, want api.Errno) {
	t.Helper()
	if e := dir.Remove(v, i, name); e != want {
		t.Fatalf("Remove of %q from %d: error %d, want %d", name, i, e, want)
	}
}

// replaces fails the test unless Replace returns that.
func replaces(t *testing.T, v *volume.Volume, i int, name string, inode, want int, we api.Errno) {
	t.Helper()
	if n, e := dir.Replace(v, i, api.Entry{Name: name, Inode: inode}); n != want || e != we {
		t.Fatalf("Replace of %q by %d in %d: got %d, error %d; want %d, error %d", name, inode, i, n, e, want, we)
	}
}

// has makes sure of all bytes of an inode.
func has(t *testing.T, v *volume.Volume, i int, want []byte) {
	t.Helper()
	n, _, _ := v.Inode(i)
	if b, e := file.Read(v, i, 0, math.MaxInt); !bytes.Equal(b, want) || e != api.OK || n.Size != len(want) {
		t.Fatalf("bytes of %d: got %v, error %d, Size %d; want %v", i, b, e, n.Size, want)
	}
}

// holds makes sure of a directory: its bytes, what is listed, and what is found of some of its names.
func holds(t *testing.T, v *volume.Volume, i int, want table) {
	t.Helper()
	has(t, v, i, want.bytes())
	l := want.entries()
	lists(t, v, i, l, api.OK)
	for k := len(l) - 1; k >= 0; k -= 1 + len(l)/4 {
		finds(t, v, i, l[k].Name, l[k].Inode, api.OK)
	}
}

// consists makes sure of the blocks of an inode.
func consists(t *testing.T, v *volume.Volume, i int, want ...int) {
	t.Helper()
	if l, e := file.Blocks(v, i); !slices.Equal(l, want) || e != api.OK {
		t.Fatalf("Blocks of %d: got %v, error %d; want %v", i, l, e, want)
	}
}

// A picture is all that a volume tells of itself.
type picture struct {
	meta   api.Meta
	dirty  int
	blocks [][]byte
	errors []api.Errno
}

func pictured(v *volume.Volume) picture {
	p := picture{meta: v.Meta(), dirty: v.Dirty()}
	for i := range v.Geo().Groups * v.Geo().PerGroup {
		b, e := v.Read(i)
		p.blocks, p.errors = append(p.blocks, b), append(p.errors, e)
	}
	return p
}

// sameContents compares the inodes and the contents of two pictures, but not which blocks are in use.
func sameContents(t *testing.T, got, want picture) {
	t.Helper()
	if !slices.Equal(got.meta.Inodes, want.meta.Inodes) {
		t.Fatalf("inodes: got %v, want %v", got.meta.Inodes, want.meta.Inodes)
	}
	if got.dirty != want.dirty {
		t.Fatalf("Dirty: got %d, want %d", got.dirty, want.dirty)
	}
	for i := range want.blocks {
		if !bytes.Equal(got.blocks[i], want.blocks[i]) || got.errors[i] != want.errors[i] {
			t.Fatalf("block %d: got %v, error %d; want %v, error %d", i, got.blocks[i], got.errors[i], want.blocks[i], want.errors[i])
		}
	}
}

// samePicture compares two pictures.
func samePicture(t *testing.T, got, want picture) {
	t.Helper()
	sameContents(t, got, want)
	a, b := got.meta, want.meta
	if !slices.Equal(a.Rows, b.Rows) || !slices.Equal(a.Owners, b.Owners) || !bytes.Equal(a.Used, b.Used) {
		t.Fatalf("metadata: got %v, want %v", a, b)
	}
}

// leaves makes sure that a call changes nothing.
func leaves(t *testing.T, v *volume.Volume, call func()) {
	t.Helper()
	was := pictured(v)
	call()
	samePicture(t, pictured(v), was)
}

// written makes sure of the blocks that a call changes, and that it writes no other ones.
func written(t *testing.T, v *volume.Volume, call func(), want ...int) {
	t.Helper()
	syncs(t, v)
	was := pictured(v)
	call()
	now := pictured(v)
	var l []int
	for i := range was.blocks {
		if !bytes.Equal(was.blocks[i], now.blocks[i]) {
			l = append(l, i)
		}
	}
	slices.Sort(want)
	if !slices.Equal(l, want) || now.dirty != len(want) {
		t.Fatalf("blocks that changed: got %v, %d of them to be written; want %v", l, now.dirty, want)
	}
}

// inUse returns how many blocks are in use.
func inUse(v *volume.Volume) int {
	n := 0
	for _, b := range v.Meta().Used {
		for ; b > 0; b &= b - 1 {
			n++
		}
	}
	return n
}

// sameDisk compares two disks.
func sameDisk(t *testing.T, d, o *disk.Disk) {
	t.Helper()
	if d.Dead() != o.Dead() || d.Done() != o.Done() {
		t.Fatalf("Dead and Done: got %v and %d, want %v and %d", d.Dead(), d.Done(), o.Dead(), o.Done())
	}
	for i := range o.Len() {
		b, e1 := d.Read(i)
		a, e2 := d.Tag(i)
		ob, o1 := o.Read(i)
		oa, o2 := o.Tag(i)
		if !bytes.Equal(b, ob) || a != oa || e1 != o1 || e2 != o2 {
			t.Fatalf("sector %d: got %v, tag %d, error %d; want %v, tag %d, error %d", i, b, a, e1, ob, oa, o1)
		}
	}
}

// dice are numbers that look like no rule, and are the same each time.
type dice uint64

func (x *dice) under(n int) int {
	*x = *x*6364136223846793005 + 1442695040888963407
	return int(uint64(*x) >> 33 % uint64(n))
}
