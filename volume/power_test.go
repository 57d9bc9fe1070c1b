package volume_test

import (
	"bytes"
	"slices"
	"testing"

	"moat/api"
	"moat/disk"
	"moat/volume"
)

// An image is all that a volume tells of itself.
type image struct {
	meta   api.Meta
	blocks [][]byte
}

func imageOf(t *testing.T, v *volume.Volume) image {
	t.Helper()
	x := image{meta: v.Meta()}
	g := v.Geo()
	for i := range g.Groups * g.PerGroup {
		b, e := v.Read(i)
		if e != api.OK {
			t.Fatalf("Read of block %d: error %d", i, e)
		}
		x.blocks = append(x.blocks, b)
	}
	return x
}

func sameImage(a, b image) bool {
	return sameMeta(a.meta, b.meta) && slices.EqualFunc(a.blocks, b.blocks, bytes.Equal)
}

// ownerOf returns the label of the owner of a block's group, if it has one.
func ownerOf(g api.Geo, m api.Meta, block int) (api.Label, bool) {
	owner := m.Owners[block/g.PerGroup]
	if owner == 0 {
		return 0, false
	}
	return m.Rows[owner-1].Label, true
}

// P15.6: scrubbed makes sure that what is not in use is bytes 0.
func scrubbed(t *testing.T, v *volume.Volume) {
	t.Helper()
	x := imageOf(t, v)
	for i, b := range x.blocks {
		if x.meta.Used[i/8]>>(i%8)&1 == 0 && !bytes.Equal(b, make([]byte, size)) {
			t.Fatalf("block %d is not in use, and has %v", i, b)
		}
	}
}

// P15.6: tagged makes sure that each sector of a block is its owner's, or bytes 0, if all is synced.
func tagged(t *testing.T, v *volume.Volume, d *disk.Disk) {
	t.Helper()
	g, m := v.Geo(), v.Meta()
	for i := range g.Groups * g.PerGroup {
		b, _ := d.Read(plan(g).Blocks + i)
		tag, _ := d.Tag(plan(g).Blocks + i)
		if a, is := ownerOf(g, m, i); (!is || a != tag) && !bytes.Equal(b, make([]byte, size)) {
			t.Fatalf("block %d has the tag %d, and its owner is %d, %v", i, tag, a, is)
		}
	}
}

// P15.7: counted makes sure that the references are those that there are, and that no row is needed that is free.
func counted(t *testing.T, v *volume.Volume) {
	t.Helper()
	m, g := v.Meta(), v.Geo()
	refs := make([]int, table)
	for _, owner := range m.Owners {
		if owner > 0 {
			refs[owner-1]++
		}
	}
	for _, n := range m.Inodes {
		if n.Kind > 0 {
			refs[n.Row]++
		}
	}
	for i, r := range m.Rows {
		if r.Refs != refs[i] {
			t.Fatalf("row %d: %d references, and %d are there", i, r.Refs, refs[i])
		}
	}
	for i := range g.Groups * g.PerGroup {
		if _, is := ownerOf(g, m, i); m.Used[i/8]>>(i%8)&1 > 0 && !is {
			t.Fatalf("block %d is in use, and has no owner", i)
		}
	}
}

// recovers mounts a disk behind a power failure, which must have one of two images; it returns the volume and whether it is the second one.
func recovers(t *testing.T, d *disk.Disk, old, now image) (*volume.Volume, bool) {
	t.Helper()
	v := mounts(t, d)
	x := imageOf(t, v)
	if !sameImage(x, old) && !sameImage(x, now) {
		t.Fatalf("neither the old state nor the new one is there: %v", x)
	}
	scrubbed(t, v)
	tagged(t, v, d)
	counted(t, v)
	return v, sameImage(x, now)
}

// P15.5: the power fails in a Sync, ahead of each operation, and each kind of writes survives; then it fails in Mount in the same way.
func TestStateBehindEachCut(t *testing.T) {
	for _, g := range []api.Geo{small, wide} {
		for rounds := range 4 {
			length := 1
			for after := 0; after <= length; after++ {
				p := newPair(t, g)
				for c := range rounds {
					p.busy(c)
					p.sync()
				}
				old := imageOf(t, p.v)
				p.busy(rounds)
				now := imageOf(t, p.v)
				l := p.m.patches()
				ops := committing(p.m.seq+1, l)
				length = len(ops)
				p.cut(after)
				p.sync()
				for _, there := range survivals(unsafeBehind(ops, after)) {
					d := p.d.Copy()
					d.Crash(there)
					mountWithEachCut(t, d, replaying(p.m.seq, l), old, now)
					if _, is := recovers(t, d, old, now); !is && after >= length {
						t.Fatalf("a Sync that returned OK is not there")
					}
				}
			}
		}
	}
}

// mountWithEachCut mounts what a crash left, with the power failing ahead of each operation.
func mountWithEachCut(t *testing.T, base *disk.Disk, ops []operation, old, now image) {
	t.Helper()
	for after := range ops {
		d := base.Copy()
		d.Cut(after)
		if _, e := volume.Mount(d); e == api.OK {
			return // there is nothing more to replay
		} else if e != api.ErrDead {
			t.Fatalf("Mount: error %d", e)
		}
		for _, there := range []uint64{0, all, 0x5555555555555555, 0xAAAAAAAAAAAAAAAA, 1, all - 1} {
			c := d.Copy()
			c.Crash(there)
			recovers(t, c, old, now)
		}
	}
}

// change does one thing to a volume, within limits or not.
func (x *dice) change(v *volume.Volume, c int) {
	g := v.Geo()
	count := g.Groups * g.PerGroup
	switch x.under(10) {
	case 0, 1, 2:
		if b, e := v.Alloc(api.Label(x.under(7))); e == api.OK {
			v.Write(b, sector(c))
		}
	case 3, 4:
		v.Write(x.under(count), sector(c))
	case 5, 6:
		v.Free(x.any(count))
	case 7:
		v.Make(uint8(x.under(4)), api.Label(x.under(7)))
	case 8:
		v.Unmake(x.any(g.Inodes))
	default:
		i := x.under(g.Inodes)
		n, _, _ := v.Inode(i)
		n.Size = c % 4000
		v.Set(i, n)
	}
}

// Long runs in which the power fails again and again, in a Sync or out of one, and in the Mount behind it: each time all is there that was synced.
func TestLongRunsKeepWhatWasSynced(t *testing.T) {
	for i, g := range geometries() {
		for seed := range 12 {
			x := dice(7000 + 100*i + seed)
			d := formatted(t, g, 0)
			v := mounts(t, d)
			old := imageOf(t, v)
			for c := range 60 {
				for k := range x.under(20) {
					x.change(v, 100*c+k)
				}
				scrubbed(t, v)
				counted(t, v)
				now := imageOf(t, v)
				if x.under(2) == 0 {
					d.Cut(x.under(operations(v.Dirty()+3) + 4))
				}
				done := d.Done()
				e := v.Sync()
				if e == api.OK {
					old = now
					tagged(t, v, d)
				}
				if e == api.ErrLong && d.Done() != done {
					t.Fatal("a Sync of too many patches has written some")
				}
				if e == api.ErrLong || e == api.OK && x.under(3) > 0 {
					d.Cut(-1)
					continue
				}
				d.Crash(x.bits())
				for f, tries := api.ErrDead, 1; f == api.ErrDead; tries++ {
					d.Cut(x.under(20 * tries))
					_, f = volume.Mount(d)
					d.Crash(x.bits())
				}
				v, _ = recovers(t, d, old, now)
				old = imageOf(t, v)
			}
		}
	}
}

// What was changed but not synced is lost, whatever survives.
func TestChangesThatWereNotSynced(t *testing.T) {
	for _, there := range []uint64{0, all} {
		p := newPair(t, wide)
		p.busy(1)
		p.sync()
		old := imageOf(t, p.v)
		p.busy(2)
		p.begin()
		p.busy(3)
		p.crash(there)
		if v := mounts(t, p.d); !sameImage(imageOf(t, v), old) {
			t.Errorf("got %v, want %v", imageOf(t, v), old)
		}
	}
}

// P15.6: bytes of one label are overwritten ahead of another label's, whenever the power fails.
func TestTheBytesOfALabelAreScrubbed(t *testing.T) {
	secret := bytes.Repeat([]byte("secret"), 11)[:size]
	length := 1
	for after := 0; after <= length; after++ {
		for _, there := range []uint64{0, all, 0x5555555555555555, 0xAAAAAAAAAAAAAAAA} {
			p := newPair(t, example)
			for i := range 4 {
				p.alloc(2)
				p.write(i, secret)
			}
			p.sync()
			for i := range 4 {
				p.free(i)
			}
			if b := p.alloc(4); b != 0 {
				t.Fatalf("Alloc: got %d, want 0", b)
			}
			p.write(0, sector(0))
			length = len(committing(1, p.m.patches()))
			p.cut(after)
			p.sync()
			p.crash(there)
			v := mounts(t, p.d)
			tagged(t, v, p.d)
			scrubbed(t, v)
			a, _ := ownerOf(example, v.Meta(), 0)
			for i := range 4 {
				b, _ := v.Read(i)
				if bytes.Equal(b, secret) != (a == 2) {
					t.Fatalf("cut after %d: block %d is %q, and its owner is %d", after, i, b, a)
				}
			}
		}
	}
}

// P15.7: Refs counts the inodes and the groups that have a row, behind each change, and behind an Abort.
func TestRefsCountInodesAndGroups(t *testing.T) {
	for i, g := range geometries() {
		for seed := range 10 {
			x := dice(9000 + 100*i + seed)
			v := mounts(t, formatted(t, g, 0))
			for c := range 400 {
				x.change(v, c)
				switch x.under(30) {
				case 0:
					v.Begin()
				case 1:
					v.Abort()
				}
				counted(t, v)
			}
		}
	}
}
