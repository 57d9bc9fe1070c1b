package volume_test

import (
	"bytes"
	"encoding/binary"
	"hash/adler32"
	"math"
	"slices"
	"testing"

	"moat/api"
	"moat/disk"
)

const (
	size    = 64 // bytes of a sector
	table   = 16 // rows of a table
	reserve = 80 // blocks that a change changes at most
	all     = math.MaxUint64
)

var (
	example  = fitting(8, 2, 4) // of the chapter
	least    = fitting(2, 1, 1)
	small    = fitting(2, 2, 2)
	wide     = api.Geo{Journal: 130, Inodes: 8, Groups: 2, PerGroup: 4} // as the example, but with room for changes ahead of a Begin
	single   = fitting(64, 64, 1)
	together = fitting(4, 1, 512)
	uneven   = api.Geo{Journal: 130, Inodes: 62, Groups: 7, PerGroup: 73}
	roomy    = api.Geo{Journal: 200, Inodes: 6, Groups: 20, PerGroup: 8}
	greatest = api.Geo{Journal: 1000, Inodes: 64, Groups: 64, PerGroup: 8}
)

func geometries() []api.Geo {
	return []api.Geo{example, least, small, wide, single, together, uneven, roomy, greatest}
}

// extremes are far from all limits; most of them are within these if they are cut to fewer bits or have their sign taken away.
var extremes = []int{
	math.MinInt, math.MinInt + 1, math.MinInt + 4, -1<<32 + 1, -1 << 32, -1 << 31, -1<<16 + 1, -1 << 16, -512, -256, -64, -16, -8, -4, -3, -2, -1,
	1 << 16, 1<<16 + 1, 1 << 31, 1 << 32, 1<<32 + 1, 1 << 62, 1<<62 + 4, math.MaxInt - 1, math.MaxInt,
}

// fitting returns a geometry whose journal has just enough sectors.
func fitting(inodes, groups, per int) api.Geo {
	g := api.Geo{Inodes: inodes, Groups: groups, PerGroup: per}
	g.Journal = 3
	for room(g.Journal) < parts(g)+reserve {
		g.Journal++
	}
	return g
}

// parts returns how many sectors the metadata has.
func parts(g api.Geo) int { return 3 + g.Inodes/2 }

// room returns how many patches a journal of n sectors can store: a head first, and a list ahead of each fifteen of them.
func room(n int) int {
	patches, used := 0, 1
	for {
		if patches%15 == 0 {
			used++
		}
		used++
		if used > n {
			return patches
		}
		patches++
	}
}

// plan returns where what lies.
func plan(g api.Geo) api.Layout {
	labels := 1 + g.Journal
	first := labels + parts(g)
	return api.Layout{Journal: 1, Labels: labels, Groups: labels + 1, Bits: labels + 2, Inodes: labels + 3, Blocks: first, All: first + g.Groups*g.PerGroup}
}

// sealed is b with the library's checksum behind it.
func sealed(b []byte) []byte {
	return binary.LittleEndian.AppendUint32(slices.Clone(b), adler32.Checksum(b))
}

// words are numbers of two bytes each.
func words(l ...int) []byte {
	var b []byte
	for _, n := range l {
		b = binary.LittleEndian.AppendUint16(b, uint16(n))
	}
	return b
}

// padded returns b with bytes 0 behind it.
func padded(b []byte, n int) []byte { return append(slices.Clone(b), make([]byte, n-len(b))...) }

func superblock(g api.Geo) []byte {
	return sealed(padded(append([]byte("moat"), words(g.Journal, g.Inodes, g.Groups, g.PerGroup)...), 60))
}

// spelled returns the sectors of metadata.
func spelled(m api.Meta) [][]byte {
	var labels, owners, inodes []byte
	for _, r := range m.Rows {
		labels = append(labels, words(int(r.Label), r.Refs)...)
	}
	for _, n := range m.Owners {
		owners = append(owners, byte(n))
	}
	l := [][]byte{labels, padded(owners, size), slices.Clone(m.Used)}
	for _, n := range m.Inodes {
		b := append([]byte{n.Kind, n.Row}, words(append(append([]int{n.Links, n.Size}, n.Direct[:]...), n.Ind, n.Dind)...)...)
		inodes = append(inodes, padded(b, 32)...)
	}
	for b := range slices.Chunk(inodes, size) {
		l = append(l, slices.Clone(b))
	}
	return l
}

// empty returns the metadata of an empty disk.
func empty(g api.Geo) api.Meta {
	return api.Meta{Rows: make([]api.Row, table), Owners: make([]int, g.Groups), Used: make([]byte, size), Inodes: make([]api.Inode, g.Inodes)}
}

func sameMeta(a, b api.Meta) bool {
	return slices.Equal(a.Rows, b.Rows) && slices.Equal(a.Owners, b.Owners) && bytes.Equal(a.Used, b.Used) && slices.Equal(a.Inodes, b.Inodes)
}

func isNothing(m api.Meta) bool {
	return len(m.Rows)+len(m.Owners)+len(m.Used)+len(m.Inodes) == 0
}

// sector returns the bytes of write c: no two writes have the same.
func sector(c int) []byte {
	b := make([]byte, size)
	for i := range b {
		b[i] = byte(i + 7*c + 1)
	}
	b[63], b[62] = byte(c>>8), byte(c)
	return b
}

// An operation of a disk: the write of a patch, or a flush if there is none.
type operation struct{ patch *api.Patch }

// steps returns the operations that write lists of patches, each with a flush behind it.
func steps(lists ...[]api.Patch) []operation {
	var ops []operation
	for _, l := range lists {
		for _, p := range l {
			ops = append(ops, operation{&p})
		}
		ops = append(ops, operation{})
	}
	return ops
}

func headBytes(seq uint64, count int) []byte {
	b := binary.LittleEndian.AppendUint64(nil, seq)
	return sealed(padded(append(b, words(count)...), 60))
}

// head is the first sector of a volume's journal.
func head(seq uint64, count int) []api.Patch {
	return []api.Patch{{Sector: 1, Bytes: headBytes(seq, count)}}
}

// stored returns what the sectors behind the head must be so that they store l.
func stored(l []api.Patch) []api.Patch {
	var s []api.Patch
	for fifteen := range slices.Chunk(l, 15) {
		var list []byte
		for _, p := range fifteen {
			list = append(list, words(p.Sector, int(p.Tag))...)
		}
		s = append(append(s, api.Patch{Bytes: padded(list, size)}), fifteen...)
	}
	for i := range s {
		s[i].Sector = 2 + i
	}
	return s
}

// committing returns the operations by which the journal writes l, with seq as its new Seq; none if there is nothing to write.
func committing(seq uint64, l []api.Patch) []operation {
	if len(l) == 0 {
		return nil
	}
	return steps(stored(l), head(seq, len(l)), l, head(seq, 0))
}

// replaying returns the operations by which the journal writes l if it was stored.
func replaying(seq uint64, l []api.Patch) []operation { return steps(l, head(seq, 0)) }

// formatting returns the operations that make an empty volume.
func formatting(g api.Geo) []operation {
	l := []api.Patch{{Sector: 0, Bytes: superblock(g)}}
	for i := 1; i < plan(g).All; i++ {
		l = append(l, api.Patch{Sector: i, Bytes: make([]byte, size)})
	}
	return steps(l)
}

// perform does operations up to the first that fails.
func perform(d *disk.Disk, ops []operation) api.Errno {
	for _, o := range ops {
		e := api.OK
		if o.patch == nil {
			e = d.Flush()
		} else {
			e = d.Write(*o.patch)
		}
		if e != api.OK {
			return e
		}
	}
	return api.OK
}

// unsafeBehind returns how many writes are not safe behind the first n operations.
func unsafeBehind(ops []operation, n int) int {
	k := 0
	for _, o := range ops[:min(n, len(ops))] {
		k++
		if o.patch == nil {
			k = 0
		}
	}
	return k
}

// survivals returns which of n unsafe writes survive: every kind if they are few, and otherwise all, none, every other one, and each alone or alone missing.
func survivals(n int) []uint64 {
	var l []uint64
	if n <= 4 {
		for there := range uint64(1) << n {
			l = append(l, there)
		}
		return l
	}
	l = []uint64{0, all, 0x5555555555555555, 0xAAAAAAAAAAAAAAAA, 0x0F0F0F0F0F0F0F0F}
	for k := range min(n, 64) {
		l = append(l, 1<<k, all^1<<k)
	}
	return l
}

// sameDisk compares two disks.
func sameDisk(t *testing.T, d, o *disk.Disk) {
	t.Helper()
	if d.Dead() != o.Dead() || d.Done() != o.Done() {
		t.Errorf("Dead and Done: got %v and %d, want %v and %d", d.Dead(), d.Done(), o.Dead(), o.Done())
	}
	for i := range o.Len() {
		b, e1 := d.Read(i)
		a, e2 := d.Tag(i)
		ob, o1 := o.Read(i)
		oa, o2 := o.Tag(i)
		if !bytes.Equal(b, ob) || a != oa || e1 != o1 || e2 != o2 {
			t.Errorf("sector %d: got %v, tag %d, error %d; want %v, tag %d, error %d", i, b, a, e1, ob, oa, o1)
		}
	}
}

// sameCrashes compares what two disks become by crashes: so the order of their writes is compared too, and which are safe.
func sameCrashes(t *testing.T, d, o *disk.Disk, unsafe int) {
	t.Helper()
	for _, there := range survivals(unsafe) {
		a, b := d.Copy(), o.Copy()
		a.Crash(there)
		b.Crash(there)
		sameDisk(t, a, b)
		if t.Failed() {
			t.Fatalf("crash with the bits %b", there)
		}
	}
}

// used returns a disk of n sectors, each of which was written safely.
func used(t *testing.T, n int) *disk.Disk {
	t.Helper()
	d, e := disk.New(n)
	if e != api.OK {
		t.Fatalf("a disk of %d sectors: error %d", n, e)
	}
	for i := range n {
		d.Write(api.Patch{Sector: i, Bytes: sector(5000 + i), Tag: api.Label(65535 - i)})
	}
	d.Flush()
	return d
}

// puts writes patches, and makes them safe.
func puts(t *testing.T, d *disk.Disk, l ...api.Patch) {
	t.Helper()
	if e := perform(d, steps(l)); e != api.OK {
		t.Fatalf("writing to a disk: error %d", e)
	}
}

// off takes the power away without an operation that is done.
func off(t *testing.T, d *disk.Disk) {
	t.Helper()
	d.Cut(0)
	if d.Flush() != api.ErrDead || !d.Dead() {
		t.Fatal("the power is still on")
	}
}

// formatted returns a disk with an empty volume, laid without package volume, and with more sectors behind it.
func formatted(t *testing.T, g api.Geo, more int) *disk.Disk {
	t.Helper()
	d := used(t, plan(g).All+more)
	if e := perform(d, formatting(g)); e != api.OK {
		t.Fatalf("formatting a disk: error %d", e)
	}
	return d
}

// holding returns a disk with the volume of that metadata, whose blocks are bytes 0.
func holding(t *testing.T, g api.Geo, m api.Meta) *disk.Disk {
	t.Helper()
	d := formatted(t, g, 0)
	putsMeta(t, d, g, m)
	return d
}

// putsMeta lays metadata onto a disk, wrong or not.
func putsMeta(t *testing.T, d *disk.Disk, g api.Geo, m api.Meta) {
	t.Helper()
	for i, b := range spelled(m) {
		puts(t, d, api.Patch{Sector: plan(g).Labels + i, Bytes: b})
	}
}

// dice are numbers that look like no rule, and are the same each time.
type dice uint64

func (x *dice) under(n int) int {
	*x = *x*6364136223846793005 + 1442695040888963407
	return int(uint64(*x) >> 33 % uint64(n))
}

func (x *dice) bits() uint64 { return uint64(x.under(1<<31))<<33 ^ uint64(x.under(1<<31)) }
