package tree_test

import (
	"bytes"
	"math"
	"slices"
	"strings"
	"testing"

	"moat/api"
	"moat/dir"
	"moat/disk"
	"moat/file"
	"moat/super"
	"moat/tree"
	"moat/volume"
)

const (
	kindFile = api.KindFile
	kindDir  = api.KindDir
	per      = 16 // bytes of an entry
	size     = 64 // bytes of a block
	mostRefs = 65535
)

var (
	roomy = api.Geo{Journal: 130, Inodes: 24, Groups: 16, PerGroup: 4}
	large = api.Geo{Journal: 400, Inodes: 64, Groups: 64, PerGroup: 8}
	// The journal of this one has just room for one change.
	tight = api.Geo{Journal: 99, Inodes: 16, Groups: 20, PerGroup: 16}
)

// full returns the geometry of a volume with n blocks in one group.
func full(n int) api.Geo { return api.Geo{Journal: 110, Inodes: 8, Groups: 1, PerGroup: n} }

// extremes are far from all limits; most of them are within these if they are cut to fewer bits or have their sign taken away.
var extremes = []int{
	math.MinInt, math.MinInt + 1, math.MinInt + 8, -1<<32 + 1, -1 << 32, -1 << 31, -1 << 16, -256, -8, -2, -1,
	64, 65, 256, 257, 1 << 16, 1<<16 + 1, 1 << 31, 1 << 32, 1<<32 + 1, 1 << 62, math.MaxInt - 1, math.MaxInt,
}

// labels are any, among them such as flow to each other and such as do not.
var labels = []api.Label{0, 2, 4, 6, 1, 65535}

// wrongPaths are no paths, though most of them look like one.
var wrongPaths = []string{
	"", "a", "d/f", "//", "/d/", "/d//f", "//d", "/.", "/..", "/d/.", "/d/..", "/d/../d", "/./d", " /d", "/d\x00", "/\x00", "/d/f\x00x",
	"/" + strings.Repeat("x", 14), "/d/" + strings.Repeat("x", 256+1), strings.Repeat("/d", 17), strings.Repeat("/d", 256+1), strings.Repeat("/", 16),
}

// mounted returns an empty volume and its disk.
func mounted(t *testing.T, g api.Geo) (*volume.Volume, *disk.Disk) {
	t.Helper()
	l, e := super.Plan(g)
	if e != api.OK {
		t.Fatalf("Plan of %v: error %d", g, e)
	}
	d, _ := disk.New(l.All)
	if e := volume.Format(d, g); e != api.OK {
		t.Fatalf("Format for %v: error %d", g, e)
	}
	return mounts(t, d), d
}

// mounts returns the volume that must be on a disk.
func mounts(t *testing.T, d *disk.Disk) *volume.Volume {
	t.Helper()
	v, e := volume.Mount(d)
	if e != api.OK {
		t.Fatalf("Mount: error %d", e)
	}
	return v
}

// rooted returns a volume that has a root and nothing else.
func rooted(t *testing.T, g api.Geo) *volume.Volume {
	t.Helper()
	v, _ := rootedOn(t, g)
	return v
}

// rootedOn returns its disk as well.
func rootedOn(t *testing.T, g api.Geo) (*volume.Volume, *disk.Disk) {
	t.Helper()
	v, d := mounted(t, g)
	if e := tree.Init(v); e != api.OK {
		t.Fatalf("Init: error %d", e)
	}
	return v, d
}

func begins(t *testing.T, v *volume.Volume) {
	t.Helper()
	if e := v.Begin(); e != api.OK {
		t.Fatalf("Begin: error %d", e)
	}
}

func syncs(t *testing.T, v *volume.Volume) {
	t.Helper()
	if e := v.Sync(); e != api.OK {
		t.Fatalf("Sync: error %d", e)
	}
}

// off takes the power away without an operation that is done.
func off(t *testing.T, d *disk.Disk) {
	t.Helper()
	d.Cut(0)
	if d.Flush() != api.ErrDead {
		t.Fatal("the power is still on")
	}
}

// writes changes the bytes of an inode without this package.
func writes(t *testing.T, v *volume.Volume, i, at int, b []byte) {
	t.Helper()
	if e := file.Write(v, i, at, b); e != api.OK {
		t.Fatalf("Write of %d bytes at %d of %d: error %d", len(b), at, i, e)
	}
}

// links gives an inode any number of links without this package.
func links(t *testing.T, v *volume.Volume, i, n int) {
	t.Helper()
	x, _, _ := v.Inode(i)
	x.Links = n
	if e := v.Set(i, x); e != api.OK {
		t.Fatalf("Set of %d: error %d", i, e)
	}
}

// walks fails the test unless Walk returns that.
func walks(t *testing.T, v *volume.Volume, a api.Label, path string, want int, we api.Errno) {
	t.Helper()
	if i, e := tree.Walk(v, a, path); i != want || e != we {
		t.Fatalf("Walk of %q by %d: got %d, error %d; want %d, error %d", path, a, i, e, want, we)
	}
}

// stats fails the test unless Stat returns that.
func stats(t *testing.T, v *volume.Volume, a api.Label, path string, want api.Stat, we api.Errno) {
	t.Helper()
	if s, e := tree.Stat(v, a, path); s != want || e != we {
		t.Fatalf("Stat of %q by %d: got %v, error %d; want %v, error %d", path, a, s, e, want, we)
	}
}

// lists fails the test unless List returns that.
func lists(t *testing.T, v *volume.Volume, a api.Label, path string, want []string, we api.Errno) {
	t.Helper()
	if l, e := tree.List(v, a, path); !slices.Equal(l, want) || e != we {
		t.Fatalf("List of %q by %d: got %q, error %d; want %q, error %d", path, a, l, e, want, we)
	}
}

// creates makes sure that Create does it, and returns the inode.
func creates(t *testing.T, v *volume.Volume, a api.Label, path string, kind uint8, b api.Label) int {
	t.Helper()
	i, e := tree.Create(v, a, path, kind, b)
	if e != api.OK {
		t.Fatalf("Create of %q, %d by %d: error %d", path, b, a, e)
	}
	return i
}

// uncreated fails the test unless Create returns that error.
func uncreated(t *testing.T, v *volume.Volume, a api.Label, path string, kind uint8, b api.Label, want api.Errno) {
	t.Helper()
	if i, e := tree.Create(v, a, path, kind, b); i != 0 || e != want {
		t.Fatalf("Create of %q, kind %d, label %d by %d: got %d, error %d; want error %d", path, kind, b, a, i, e, want)
	}
}

// makes makes files of these paths, and directories where a path ends with a slash, all with the label a.
func makes(t *testing.T, v *volume.Volume, a api.Label, paths ...string) {
	t.Helper()
	for _, s := range paths {
		if in, is := strings.CutSuffix(s, "/"); is {
			creates(t, v, a, in, kindDir, a)
		} else {
			creates(t, v, a, s, kindFile, a)
		}
	}
}

// linked fails the test unless Link returns that error.
func linked(t *testing.T, v *volume.Volume, a api.Label, old, now string, want api.Errno) {
	t.Helper()
	if e := tree.Link(v, a, old, now); e != want {
		t.Fatalf("Link of %q to %q by %d: error %d, want %d", old, now, a, e, want)
	}
}

// unlinks fails the test unless Unlink returns that.
func unlinks(t *testing.T, v *volume.Volume, a api.Label, path string, want int, last bool, we api.Errno) {
	t.Helper()
	if i, gone, e := tree.Unlink(v, a, path); i != want || gone != last || e != we {
		t.Fatalf("Unlink of %q by %d: got %d, %v, error %d; want %d, %v, error %d", path, a, i, gone, e, want, last, we)
	}
}

// rmdirs fails the test unless Rmdir returns that error.
func rmdirs(t *testing.T, v *volume.Volume, a api.Label, path string, want api.Errno) {
	t.Helper()
	if e := tree.Rmdir(v, a, path); e != want {
		t.Fatalf("Rmdir of %q by %d: error %d, want %d", path, a, e, want)
	}
}

// renames fails the test unless Rename returns that.
func renames(t *testing.T, v *volume.Volume, a api.Label, old, now string, want int, last bool, we api.Errno) {
	t.Helper()
	if i, gone, e := tree.Rename(v, a, old, now); i != want || gone != last || e != we {
		t.Fatalf("Rename of %q to %q by %d: got %d, %v, error %d; want %d, %v, error %d", old, now, a, i, gone, e, want, last, we)
	}
}

// releases fails the test unless Release returns that error.
func releases(t *testing.T, v *volume.Volume, i int, want api.Errno) {
	t.Helper()
	if e := tree.Release(v, i); e != want {
		t.Fatalf("Release of %d: error %d, want %d", i, e, want)
	}
}

// reaps fails the test unless Reap returns that.
func reaps(t *testing.T, v *volume.Volume, want int, we api.Errno) {
	t.Helper()
	if n, e := tree.Reap(v); n != want || e != we {
		t.Fatalf("Reap: got %d, error %d; want %d, error %d", n, e, want, we)
	}
}

// A picture is all that a volume tells of itself.
type picture struct {
	meta   api.Meta
	dirty  int
	blocks [][]byte
	errors []api.Errno
}

func pictured(v *volume.Volume) picture {
	p := picture{meta: v.Meta(), dirty: v.Dirty()}
	for i := range v.Geo().Groups * v.Geo().PerGroup {
		b, e := v.Read(i)
		p.blocks, p.errors = append(p.blocks, b), append(p.errors, e)
	}
	return p
}

// samePicture compares two pictures.
func samePicture(t *testing.T, got, want picture) {
	t.Helper()
	a, b := got.meta, want.meta
	if !slices.Equal(a.Rows, b.Rows) || !slices.Equal(a.Owners, b.Owners) || !bytes.Equal(a.Used, b.Used) || !slices.Equal(a.Inodes, b.Inodes) {
		t.Fatalf("metadata: got %v, want %v", a, b)
	}
	if got.dirty != want.dirty {
		t.Fatalf("Dirty: got %d, want %d", got.dirty, want.dirty)
	}
	for i := range want.blocks {
		if !bytes.Equal(got.blocks[i], want.blocks[i]) || got.errors[i] != want.errors[i] {
			t.Fatalf("block %d: got %v, error %d; want %v, error %d", i, got.blocks[i], got.errors[i], want.blocks[i], want.errors[i])
		}
	}
}

// mark adds to the links of the root, if there is one, without this package: a Begin behind that remembers it.
func mark(t *testing.T, v *volume.Volume, by int) {
	t.Helper()
	if n, _, e := v.Inode(0); e == api.OK {
		links(t, v, 0, n.Links+by)
	}
}

// leaves makes sure that a call neither changes anything nor calls Begin.
func leaves(t *testing.T, v *volume.Volume, call func()) {
	t.Helper()
	begins(t, v)
	was := pictured(v)
	mark(t, v, 1)
	marked := pictured(v)
	call()
	samePicture(t, pictured(v), marked)
	v.Abort()
	samePicture(t, pictured(v), was)
}

// undone makes sure that a call calls Begin, and that nothing is changed behind it.
func undone(t *testing.T, v *volume.Volume, call func()) {
	t.Helper()
	begins(t, v)
	mark(t, v, 1)
	was := pictured(v)
	call()
	samePicture(t, pictured(v), was)
	v.Abort()
	samePicture(t, pictured(v), was)
	mark(t, v, -1)
}

// changes makes sure that a call calls Begin once, ahead of all that it changes.
func changes(t *testing.T, v *volume.Volume, call func()) {
	t.Helper()
	begins(t, v)
	mark(t, v, 1)
	was := pictured(v)
	call()
	now := pictured(v)
	v.Abort()
	samePicture(t, pictured(v), was)
	call()
	samePicture(t, pictured(v), now)
	mark(t, v, -1)
}

// inUse returns how many blocks are in use.
func inUse(v *volume.Volume) int {
	n := 0
	for _, b := range v.Meta().Used {
		for ; b > 0; b &= b - 1 {
			n++
		}
	}
	return n
}

// inodes returns how many inodes are not free.
func inodes(v *volume.Volume) int {
	n := 0
	for _, x := range v.Meta().Inodes {
		if x.Kind > 0 {
			n++
		}
	}
	return n
}

// rowsFree returns how many rows are free.
func rowsFree(v *volume.Volume) int {
	n := 0
	for _, r := range v.Meta().Rows {
		if r.Refs == 0 {
			n++
		}
	}
	return n
}

// sound makes sure of P18.7: names are counted from the entries of all directories, and paths from the root on.
func sound(t *testing.T, v *volume.Volume) {
	t.Helper()
	names := make([]int, v.Geo().Inodes)
	children := make([][]int, v.Geo().Inodes)
	for i, n := range v.Meta().Inodes {
		if n.Kind != kindDir {
			continue
		}
		l, e := dir.List(v, i)
		if e != api.OK {
			t.Fatalf("entries of %d: error %d", i, e)
		}
		for _, x := range l {
			names[x.Inode]++
			children[i] = append(children[i], x.Inode)
		}
	}
	paths := make([]int, v.Geo().Inodes)
	var visit func(i int)
	visit = func(i int) {
		paths[i]++
		for _, k := range children[i] {
			if paths[k] < 3 {
				visit(k)
			}
		}
	}
	visit(0)
	for i, n := range v.Meta().Inodes {
		switch {
		case n.Kind == 0:
			if names[i] > 0 {
				t.Fatalf("inode %d is free, and has %d names", i, names[i])
			}
		case i == 0:
			if n.Kind != kindDir || n.Links != 1 || names[0] > 0 {
				t.Fatalf("the root is %v, and has %d names", n, names[0])
			}
		case n.Links != names[i]:
			t.Fatalf("inode %d has %d links, and %d names", i, n.Links, names[i])
		case n.Kind == kindDir && paths[i] != 1:
			t.Fatalf("%d paths lead to the directory %d", paths[i], i)
		}
	}
}

// sameDisk compares two disks.
func sameDisk(t *testing.T, d, o *disk.Disk) {
	t.Helper()
	if d.Dead() != o.Dead() || d.Done() != o.Done() {
		t.Fatalf("Dead and Done: got %v and %d, want %v and %d", d.Dead(), d.Done(), o.Dead(), o.Done())
	}
	for i := range o.Len() {
		b, e1 := d.Read(i)
		a, e2 := d.Tag(i)
		ob, o1 := o.Read(i)
		oa, o2 := o.Tag(i)
		if !bytes.Equal(b, ob) || a != oa || e1 != o1 || e2 != o2 {
			t.Fatalf("sector %d: got %v, tag %d, error %d; want %v, tag %d, error %d", i, b, a, e1, ob, oa, o1)
		}
	}
}

// dice are numbers that look like no rule, and are the same each time.
type dice uint64

func (x *dice) under(n int) int {
	*x = *x*6364136223846793005 + 1442695040888963407
	return int(uint64(*x) >> 33 % uint64(n))
}
