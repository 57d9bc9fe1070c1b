package volume_test

import (
	"bytes"
	"math"
	"slices"
	"testing"

	"moat/api"
	"moat/disk"
	"moat/volume"
)

// formats formats a disk, which must end with that error and be as another one then.
func formats(t *testing.T, d *disk.Disk, g api.Geo, want api.Errno, then *disk.Disk) {
	t.Helper()
	if e := volume.Format(d, g); e != want {
		t.Errorf("Format for %v: error %d, want %d", g, e, want)
	}
	sameDisk(t, d, then)
}

// notMounted makes sure that a disk has no volume, and that asking leaves it as it was.
func notMounted(t *testing.T, d *disk.Disk, want api.Errno) {
	t.Helper()
	was := d.Copy()
	if v, e := volume.Mount(d); v != nil || e != want {
		t.Errorf("Mount: got %v, error %d; want error %d", v != nil, e, want)
	}
	if d != nil {
		sameDisk(t, d, was)
	}
}

// wrongGeometries are not valid, each of them for one reason.
func wrongGeometries() []api.Geo {
	l := []api.Geo{{}, {Journal: 200, Inodes: 8, Groups: 2, PerGroup: 257}, {Journal: 200, Inodes: 8, Groups: 64, PerGroup: 9}, {Journal: 200, Inodes: 8, Groups: 4, PerGroup: 1 << 62}}
	for _, n := range append([]int{0, 1, 3, 65, 66, 513, 1001}, extremes...) {
		a, b, c, d := example, example, example, example
		a.Journal, b.Inodes, c.Groups, d.PerGroup = n, n, n, n
		l = append(l, a, b, c, d)
	}
	return slices.DeleteFunc(l, isGeo)
}

// isGeo holds a geometry against the words of the chapter on the superblock.
func isGeo(g api.Geo) bool {
	return g.Journal >= 3 && g.Journal <= 1000 && g.Inodes >= 2 && g.Inodes <= 64 && g.Inodes&1 == 0 && g.Groups >= 1 && g.Groups <= 64 && g.PerGroup >= 1 && g.PerGroup <= 512/g.Groups
}

// The geometries of the tests are what they are said to be.
func TestModel(t *testing.T) {
	for _, g := range append(geometries(), tight()...) {
		if !isGeo(g) || room(g.Journal) < parts(g)+reserve {
			t.Errorf("%v is not for a volume", g)
		}
	}
	for _, g := range tight() {
		if room(g.Journal-1) != parts(g)+reserve-1 {
			t.Errorf("%v has room to spare", g)
		}
	}
	if least.Journal != 91 || room(3) != 1 || room(8) != 6 || room(17) != 15 || room(18) != 15 || room(19) != 16 {
		t.Errorf("%v, %d, %d, %d, %d, %d", least, room(3), room(8), room(17), room(18), room(19))
	}
	for _, g := range wrongGeometries() {
		if isGeo(g) {
			t.Errorf("%v is valid", g)
		}
	}
	if len(wrongGeometries()) < 100 {
		t.Errorf("%d wrong geometries", len(wrongGeometries()))
	}
}

// tight are geometries whose journals have just enough room, for each number of inodes.
func tight() []api.Geo {
	var l []api.Geo
	for inodes := 2; inodes <= 64; inodes += 2 {
		l = append(l, fitting(inodes, 3, 5))
	}
	return l
}

// P15.1: Format

func TestFormatOfNoDisk(t *testing.T) {
	for _, g := range append(append(geometries(), tight()...), wrongGeometries()...) {
		if e := volume.Format(nil, g); e != api.ErrNone {
			t.Errorf("Format for %v: error %d, want %d", g, e, api.ErrNone)
		}
	}
}

// Format writes each sector once, in order, with the tag 0, and flushes once; what lies behind stays as it was.
func TestFormatAsTheModel(t *testing.T) {
	for _, g := range geometries() {
		for _, more := range []int{0, 1, 100} {
			d := used(t, plan(g).All+more)
			want := d.Copy()
			perform(want, formatting(g))
			formats(t, d, g, api.OK, want)
			sameCrashes(t, d, want, 0)
		}
		d := used(t, api.MaxSectors)
		want := d.Copy()
		perform(want, formatting(g))
		formats(t, d, g, api.OK, want)
	}
}

// A few words of the chapter, without the model.
func TestFormatOfTheExample(t *testing.T) {
	d, _ := disk.New(120)
	for i := range 120 {
		d.Write(api.Patch{Sector: i, Bytes: bytes.Repeat([]byte{1}, size), Tag: 9})
	}
	d.Flush()
	if e := volume.Format(d, api.Geo{Journal: 94, Inodes: 8, Groups: 2, PerGroup: 4}); e != api.OK || d.Done() != 120+1+110+1 {
		t.Errorf("Format: error %d, %d operations", e, d.Done())
	}
	d.Crash(0)
	for i := range 120 {
		b, _ := d.Read(i)
		a, _ := d.Tag(i)
		switch {
		case i == 0 && (!bytes.Equal(b[:14], []byte{'m', 'o', 'a', 't', 94, 0, 8, 0, 2, 0, 4, 0, 0, 0}) || a != 0):
			t.Errorf("sector 0: got %v, tag %d", b, a)
		case i > 0 && i < 110 && (!bytes.Equal(b, make([]byte, size)) || a != 0):
			t.Errorf("sector %d: got %v, tag %d", i, b, a)
		case i >= 110 && (b[0] != 1 || a != 9):
			t.Errorf("sector %d: got %v, tag %d", i, b, a)
		}
	}
}

func TestFormatWithEachCutAsTheModel(t *testing.T) {
	for _, g := range []api.Geo{least, example, roomy} {
		base := used(t, plan(g).All+2)
		ops := formatting(g)
		for after := range len(ops) + 2 {
			d, want := base.Copy(), base.Copy()
			d.Cut(after)
			want.Cut(after)
			e := perform(want, ops)
			if (e == api.OK) != (after >= len(ops)) {
				t.Fatalf("cut after %d: error %d", after, e)
			}
			formats(t, d, g, e, want)
			if after < 5 || after > len(ops)-3 {
				sameCrashes(t, d, want, unsafeBehind(ops, after))
			} else {
				d.Crash(0xF0F0F0F0F0F0F0F0)
				want.Crash(0xF0F0F0F0F0F0F0F0)
				sameDisk(t, d, want)
			}
		}
	}
}

// Nothing is written where something is wrong; that comes ahead of the power.
func TestFormatRefuses(t *testing.T) {
	refuses := func(d *disk.Disk, g api.Geo) {
		t.Helper()
		formats(t, d, g, api.ErrArg, d.Copy())
		d = d.Copy()
		d.Cut(0)
		formats(t, d, g, api.ErrArg, d.Copy())
		off(t, d)
		formats(t, d, g, api.ErrArg, d.Copy())
	}
	great := used(t, api.MaxSectors)
	for _, g := range wrongGeometries() {
		refuses(great, g)
	}
	for _, g := range geometries() {
		for _, n := range []int{0, 1, plan(g).Labels, plan(g).Blocks, plan(g).All - 1} {
			refuses(used(t, n), g)
		}
	}
	for _, g := range tight() {
		g.Journal--
		refuses(great, g)
		g.Journal = 3
		refuses(great, g)
	}
	refuses(&disk.Disk{}, example)
}

func TestFormatOfTightDisks(t *testing.T) {
	for _, g := range tight() {
		d := used(t, plan(g).All)
		want := d.Copy()
		perform(want, formatting(g))
		formats(t, d, g, api.OK, want)
	}
}

func TestFormatWithoutPower(t *testing.T) {
	for _, g := range geometries() {
		d := used(t, plan(g).All)
		off(t, d)
		formats(t, d, g, api.ErrDead, d.Copy())
	}
}

// Format takes a disk that has a volume already, and leaves nothing of it.
func TestFormatAgain(t *testing.T) {
	p := newPair(t, example)
	for range 3 {
		b := p.alloc(2)
		p.write(b, sector(b))
	}
	p.make(1, 4)
	p.sync()
	want := p.d.Copy()
	perform(want, formatting(example))
	formats(t, p.d, example, api.OK, want)
	if v := mounts(t, p.d); !sameMeta(v.Meta(), empty(example)) {
		t.Errorf("Meta: got %v", v.Meta())
	}
}

// P15.1: Mount

func TestMountOfEmptyVolumes(t *testing.T) {
	for _, g := range append(geometries(), tight()...) {
		for _, more := range []int{0, 1, 50} {
			d := formatted(t, g, more)
			want := d.Copy()
			p := &pair{t: t, v: mounts(t, d), d: d, m: newModel(want, g)}
			p.matches()
			// It makes no operation ahead of which the power could go off.
			d.Cut(0)
			mounts(t, d)
			if d.Dead() || d.Done() != want.Done() {
				t.Errorf("Mount made %d operations", d.Done()-want.Done())
			}
		}
	}
}

func TestMountBehindFormat(t *testing.T) {
	for _, g := range geometries() {
		d := used(t, plan(g).All)
		if e := volume.Format(d, g); e != api.OK {
			t.Fatalf("Format for %v: error %d", g, e)
		}
		if v := mounts(t, d); v.Geo() != g || !sameMeta(v.Meta(), empty(g)) || v.Dirty() != 0 {
			t.Errorf("Mount for %v: got %v, %v, %d", g, v.Geo(), v.Meta(), v.Dirty())
		}
	}
}

func TestMountOfNoDisk(t *testing.T) {
	notMounted(t, nil, api.ErrNone)
	notMounted(t, &disk.Disk{}, api.ErrSuper)
	d := used(t, 0)
	notMounted(t, d, api.ErrSuper)
	off(t, d)
	notMounted(t, d, api.ErrSuper)
}

func TestMountWithoutPower(t *testing.T) {
	for _, d := range []*disk.Disk{formatted(t, example, 0), used(t, 1), used(t, 200)} {
		off(t, d)
		notMounted(t, d, api.ErrDead)
	}
}

func TestMountOfWrongSuperblocks(t *testing.T) {
	for _, g := range []api.Geo{least, example, greatest} {
		d := formatted(t, g, 0)
		right := superblock(g)
		for i := range right {
			for _, k := range []byte{1, 2, 128, 255} {
				b := slices.Clone(right)
				b[i] ^= k
				puts(t, d, api.Patch{Bytes: b})
				notMounted(t, d, api.ErrSuper)
			}
		}
		for _, b := range [][]byte{make([]byte, size), sector(1), padded(right[:60], size), bytes.Repeat([]byte{255}, size)} {
			puts(t, d, api.Patch{Bytes: b})
			notMounted(t, d, api.ErrSuper)
		}
		// The tag doesn't count.
		puts(t, d, api.Patch{Bytes: right, Tag: 65535})
		mounts(t, d)
	}
	notMounted(t, used(t, 1), api.ErrSuper)
	notMounted(t, used(t, 500), api.ErrSuper)
}

// A superblock that is right in itself, but not for this disk: the sectors are too few, or the journal is too small.
func TestMountOfSuperblocksOfOtherDisks(t *testing.T) {
	for _, g := range append(geometries(), tight()...) {
		d := formatted(t, g, 0)
		for _, h := range geometries() {
			if plan(h).All <= plan(g).All {
				continue
			}
			c := d.Copy()
			puts(t, c, api.Patch{Bytes: superblock(h)})
			notMounted(t, c, api.ErrSuper)
		}
		for i, change := range []func(*api.Geo){
			func(h *api.Geo) { h.Journal++ },
			func(h *api.Geo) { h.Inodes += 2 },
			func(h *api.Geo) { h.Groups++ },
			func(h *api.Geo) { h.PerGroup++ },
		} {
			h := g
			change(&h)
			if !isGeo(h) {
				continue
			}
			c := d.Copy()
			puts(t, c, api.Patch{Bytes: superblock(h)})
			notMounted(t, c, api.ErrSuper)
			if t.Failed() {
				t.Fatalf("%v, change %d", g, i)
			}
		}
	}
	for _, g := range tight() {
		for _, n := range []int{3, 50, g.Journal - 1} {
			h := g
			h.Journal = n
			d := formatted(t, h, 50)
			notMounted(t, d, api.ErrSuper)
		}
	}
}

// All sectors of a fresh disk are bytes 0, so that a superblock makes a volume of it.
func TestMountOfASuperblockAlone(t *testing.T) {
	for _, g := range append(geometries(), tight()...) {
		for _, x := range []struct {
			n    int
			want api.Errno
		}{{plan(g).All - 1, api.ErrSuper}, {plan(g).All, api.OK}, {plan(g).All + 1, api.OK}, {api.MaxSectors, api.OK}} {
			d, _ := disk.New(x.n)
			puts(t, d, api.Patch{Bytes: superblock(g)})
			if x.want != api.OK {
				notMounted(t, d, x.want)
			} else if v := mounts(t, d); v.Geo() != g {
				t.Errorf("Geo: got %v, want %v", v.Geo(), g)
			}
		}
	}
}

func TestMountOfSpoiltJournals(t *testing.T) {
	for _, g := range []api.Geo{least, example, roomy} {
		base := formatted(t, g, 3)
		spoil := func(l ...api.Patch) {
			t.Helper()
			d := base.Copy()
			puts(t, d, l...)
			notMounted(t, d, api.ErrJournal)
			// The journal comes ahead of the metadata, and behind the superblock.
			puts(t, d, api.Patch{Sector: plan(g).Bits, Bytes: bytes.Repeat([]byte{255}, size)})
			notMounted(t, d, api.ErrJournal)
			puts(t, d, api.Patch{Sector: 0, Bytes: sector(1)})
			notMounted(t, d, api.ErrSuper)
		}
		for i := range size {
			b := make([]byte, size)
			b[i] = 1
			spoil(api.Patch{Sector: 1, Bytes: b})
			b = headBytes(5, 0)
			b[i] ^= 16
			spoil(api.Patch{Sector: 1, Bytes: b})
		}
		spoil(head(5, room(g.Journal)+1)...)
		spoil(head(5, 65535)...)
		for _, sector := range []int{1, 2, g.Journal, plan(g).All + 3, 65535} {
			p := api.Patch{Sector: sector, Bytes: make([]byte, size)}
			spoil(append(stored([]api.Patch{p}), head(5, 1)...)...)
			spoil(append(stored([]api.Patch{{Sector: plan(g).Blocks, Bytes: make([]byte, size)}, p}), head(5, 2)...)...)
		}
	}
}

// Mount writes what the journal has stored, and then finds the metadata that was among it.
func TestMountReplaysWithEachCut(t *testing.T) {
	g := example
	m := owned(g)
	var l []api.Patch
	for i, b := range spelled(m) {
		l = append(l, api.Patch{Sector: plan(g).Labels + i, Bytes: b})
	}
	l = append(l, api.Patch{Sector: plan(g).Blocks + 5, Bytes: sector(5), Tag: 6})
	base := formatted(t, g, 0)
	puts(t, base, stored(l)...)
	puts(t, base, head(7, len(l))...)
	ops := replaying(7, l)
	for after := range len(ops) + 1 {
		for _, there := range survivals(unsafeBehind(ops, after)) {
			d, want := base.Copy(), base.Copy()
			d.Cut(after)
			want.Cut(after)
			e := perform(want, ops)
			v, f := volume.Mount(d)
			if f != e || (v != nil) != (e == api.OK) {
				t.Fatalf("Mount cut after %d: got %v, error %d; want error %d", after, v != nil, f, e)
			}
			sameDisk(t, d, want)
			d.Crash(there)
			want.Crash(there)
			sameDisk(t, d, want)
			v = mounts(t, d)
			if b, e := v.Read(5); !sameMeta(v.Meta(), m) || !bytes.Equal(b, sector(5)) || e != api.OK {
				t.Fatalf("Mount cut after %d: got %v, block 5 %v", after, v.Meta(), b)
			}
		}
	}
}

// owned returns metadata in which each group has an owner and its last block in use, and half of the inodes are in use.
func owned(g api.Geo) api.Meta {
	m := empty(g)
	for i := range m.Owners {
		row := i % 3
		m.Owners[i] = row + 1
		m.Rows[row].Label, m.Rows[row].Refs = api.Label(6+row), m.Rows[row].Refs+1
		last := (i+1)*g.PerGroup - 1
		m.Used[last/8] |= 1 << (last % 8)
	}
	for i := range g.Inodes / 2 {
		row := 15 - i%4
		m.Inodes[2*i] = api.Inode{Kind: uint8(1 + i%2), Row: uint8(row), Links: i, Size: 64 * i, Ind: i}
		m.Rows[row].Label, m.Rows[row].Refs = api.Label(row), m.Rows[row].Refs+1
	}
	return m
}

// changed returns metadata that turn has changed.
func changed(m api.Meta, turn func(*api.Meta)) api.Meta {
	m = api.Meta{Rows: slices.Clone(m.Rows), Owners: slices.Clone(m.Owners), Used: slices.Clone(m.Used), Inodes: slices.Clone(m.Inodes)}
	turn(&m)
	return m
}

func TestMountFindsTheMetadata(t *testing.T) {
	for _, g := range geometries() {
		m := owned(g)
		d := holding(t, g, m)
		v := mounts(t, d)
		if !sameMeta(v.Meta(), m) || v.Geo() != g || v.Dirty() != 0 {
			t.Errorf("%v: got %v", g, v.Meta())
		}
		for i, n := range m.Inodes {
			k, a, e := v.Inode(i)
			if n.Kind == 0 && e != api.ErrNone || n.Kind > 0 && (k != n || a != api.Label(n.Row) || e != api.OK) {
				t.Errorf("Inode %d: got %v, label %d, error %d", i, k, a, e)
			}
		}
	}
}

func TestMountOfWrongMetadata(t *testing.T) {
	for _, g := range []api.Geo{least, example, roomy, uneven} {
		wrong := func(turn func(*api.Meta)) {
			t.Helper()
			for _, m := range []api.Meta{empty(g), owned(g)} {
				notMounted(t, holding(t, g, changed(m, turn)), api.ErrMeta)
			}
		}
		wrong(func(m *api.Meta) { m.Rows[9] = api.Row{Label: 1} })
		wrong(func(m *api.Meta) { m.Rows[8], m.Rows[9] = api.Row{Label: 1, Refs: 1}, api.Row{Label: 1, Refs: 2} })
		wrong(func(m *api.Meta) { m.Owners[g.Groups-1] = 17 })
		wrong(func(m *api.Meta) { m.Owners[0] = 255 })
		wrong(func(m *api.Meta) { m.Owners = append(m.Owners, 1) })
		wrong(func(m *api.Meta) { m.Used[g.Groups*g.PerGroup/8] |= 1 << (g.Groups * g.PerGroup % 8) })
		wrong(func(m *api.Meta) { m.Used[63] |= 128 })
		wrong(func(m *api.Meta) { m.Inodes[0].Kind = 3 })
		wrong(func(m *api.Meta) { m.Inodes[1].Row = 16 })
		wrong(func(m *api.Meta) { m.Inodes[0].Size = 3841 })
		wrong(func(m *api.Meta) { m.Inodes[g.Inodes-1] = api.Inode{Dind: 1} })
		for i := range 2 {
			d := formatted(t, g, 0)
			b := make([]byte, size)
			b[32*i+27] = 1 // behind the fields of an inode
			puts(t, d, api.Patch{Sector: plan(g).Blocks - 1, Bytes: b})
			notMounted(t, d, api.ErrMeta)
		}
	}
}

// The first sector of the blocks is none of the metadata, nor is the last one of the journal.
func TestMountReadsTheSectorsOfTheMetadata(t *testing.T) {
	for _, g := range geometries() {
		d := formatted(t, g, 1)
		for _, i := range []int{2, g.Journal, plan(g).Blocks, plan(g).All - 1} {
			puts(t, d, api.Patch{Sector: i, Bytes: bytes.Repeat([]byte{255}, size), Tag: 3})
		}
		v := mounts(t, d)
		if b, e := v.Read(0); b[0] != 255 || e != api.OK {
			t.Errorf("Read of block 0: got %v, error %d", b, e)
		}
	}
}

// The metadata is valid in each case, and consistent if nothing is changed.
func TestMountOfInconsistentMetadata(t *testing.T) {
	for _, g := range []api.Geo{least, example, roomy, single, greatest} {
		base := owned(g)
		mounts(t, holding(t, g, base))
		wrong := func(m api.Meta, turn func(*api.Meta)) {
			t.Helper()
			notMounted(t, holding(t, g, changed(m, turn)), api.ErrMeta)
		}
		for i := range g.Groups {
			// An owner without a row.
			for row := 3; row < 12; row++ {
				wrong(base, func(m *api.Meta) { m.Owners[i] = row + 1 })
			}
			wrong(empty(g), func(m *api.Meta) { m.Owners[i] = 1 + i%16 })
			// A block in use without an owner.
			wrong(base, func(m *api.Meta) { m.Owners[i] = 0 })
			for _, k := range []int{i * g.PerGroup, (i+1)*g.PerGroup - 1} {
				wrong(empty(g), func(m *api.Meta) { m.Used[k/8] |= 1 << (k % 8) })
			}
		}
		for i := range g.Inodes {
			for row := 3; row < 12; row++ {
				wrong(base, func(m *api.Meta) { m.Inodes[i] = api.Inode{Kind: uint8(1 + i%2), Row: uint8(row)} })
			}
			wrong(empty(g), func(m *api.Meta) { m.Inodes[i] = api.Inode{Kind: uint8(1 + i%2)} })
		}
		wrong(base, func(m *api.Meta) { m.Rows[0] = api.Row{} })
		wrong(base, func(m *api.Meta) { m.Rows[15] = api.Row{} })
	}
}

// Nothing else is asked of the metadata: not how many references there are, nor whether an owner has a block in use, nor what an inode says.
func TestMountOfOtherMetadata(t *testing.T) {
	for _, g := range []api.Geo{least, example, roomy} {
		for _, turn := range []func(*api.Meta){
			func(m *api.Meta) { m.Rows[0].Refs = 65535 },
			func(m *api.Meta) { m.Rows[0].Refs = 1 },
			func(m *api.Meta) { m.Rows[8] = api.Row{Label: 77, Refs: 1} },
			func(m *api.Meta) { m.Rows[0].Label = 0 },
			func(m *api.Meta) { m.Used = make([]byte, size) },
			func(m *api.Meta) { m.Inodes[0] = api.Inode{Kind: 2, Row: 0, Size: 3840, Ind: 512} },
			func(m *api.Meta) { m.Inodes[0] = api.Inode{} },
			func(m *api.Meta) { m.Inodes[1] = api.Inode{Kind: 1, Row: 15} },
		} {
			m := changed(owned(g), turn)
			if v := mounts(t, holding(t, g, m)); !sameMeta(v.Meta(), m) {
				t.Errorf("got %v, want %v", v.Meta(), m)
			}
		}
	}
}

// P15.4: Geo, Meta, and a nil Volume

func TestNilVolume(t *testing.T) {
	var v *volume.Volume
	for _, i := range append([]int{0, 1}, extremes...) {
		b, e1 := v.Read(i)
		n, a, e2 := v.Inode(i)
		if len(b) != 0 || n != (api.Inode{}) || a != 0 || e1 != api.ErrNone || e2 != api.ErrNone {
			t.Errorf("Read and Inode of %d: got %v, %v, %d, errors %d, %d", i, b, n, a, e1, e2)
		}
		for _, e := range []api.Errno{v.Free(i), v.Write(i, nil), v.Write(i, sector(1)), v.Unmake(i), v.Set(i, api.Inode{}), v.Set(i, api.Inode{Kind: 1})} {
			if e != api.ErrNone {
				t.Errorf("Free, Write, Unmake and Set of %d: error %d", i, e)
			}
		}
	}
	for kind := range 256 {
		if i, e := v.Make(uint8(kind), api.Label(kind)); i != 0 || e != api.ErrNone {
			t.Errorf("Make of kind %d: got %d, error %d", kind, i, e)
		}
		if i, e := v.Alloc(api.Label(kind)); i != 0 || e != api.ErrNone {
			t.Errorf("Alloc: got %d, error %d", i, e)
		}
	}
	if e, f := v.Begin(), v.Sync(); e != api.ErrNone || f != api.ErrNone {
		t.Errorf("Begin and Sync: errors %d, %d", e, f)
	}
	v.Abort()
	if v.Geo() != (api.Geo{}) || !isNothing(v.Meta()) || v.Dirty() != 0 {
		t.Errorf("Geo, Meta and Dirty: got %v, %v, %d", v.Geo(), v.Meta(), v.Dirty())
	}
}

// A Volume that no Mount made has nothing; its methods don't panic.
func TestZeroVolume(t *testing.T) {
	v := &volume.Volume{}
	for _, i := range append([]int{0, 1}, extremes...) {
		_, e1 := v.Read(i)
		_, _, e2 := v.Inode(i)
		if e1 != api.ErrArg || e2 != api.ErrArg || v.Free(i) != api.ErrArg || v.Write(i, sector(1)) != api.ErrArg || v.Unmake(i) != api.ErrArg || v.Set(i, api.Inode{Kind: 1}) != api.ErrArg {
			t.Errorf("number %d: errors %d, %d", i, e1, e2)
		}
	}
	if i, e := v.Alloc(1); i != 0 || e == api.OK {
		t.Errorf("Alloc: got %d, error %d", i, e)
	}
	if i, e := v.Make(1, 1); i != 0 || e == api.OK {
		t.Errorf("Make: got %d, error %d", i, e)
	}
	v.Abort()
	if v.Begin() == api.OK || v.Sync() == api.OK {
		t.Errorf("Begin and Sync: errors %d, %d", v.Begin(), v.Sync())
	}
	if v.Geo() != (api.Geo{}) || !isNothing(v.Meta()) || v.Dirty() != 0 {
		t.Errorf("Geo, Meta and Dirty: got %v, %v, %d", v.Geo(), v.Meta(), v.Dirty())
	}
}

// fill overwrites all that metadata has, also behind the ends of its slices.
func fill(m api.Meta) {
	for i := range m.Rows[:cap(m.Rows)] {
		m.Rows[:cap(m.Rows)][i] = api.Row{Label: 65535, Refs: -1}
	}
	for i := range m.Owners[:cap(m.Owners)] {
		m.Owners[:cap(m.Owners)][i] = math.MinInt
	}
	for i := range m.Used[:cap(m.Used)] {
		m.Used[:cap(m.Used)][i] = 0x5A
	}
	for i := range m.Inodes[:cap(m.Inodes)] {
		m.Inodes[:cap(m.Inodes)][i] = api.Inode{Kind: 99, Links: -1}
	}
}

// What Meta returns is the caller's: it changes nothing of the volume, nor of another result, whatever was done ahead of it.
func TestMetaIsTheCallers(t *testing.T) {
	for _, g := range geometries() {
		p := newPair(t, g)
		for i, thing := range []func(){func() {}, p.begin, func() { p.alloc(1) }, func() { p.write(0, sector(1)) }, func() { p.make(1, 3) }, p.begin, func() { p.alloc(5) }, p.abort, func() { p.make(2, 4) }, p.sync, func() { p.unmake(0) }, func() { p.free(0) }, p.sync} {
			thing()
			other := p.v.Meta()
			fill(p.v.Meta())
			p.matches()
			if !sameMeta(other, p.m.meta(g)) {
				t.Fatalf("Meta behind thing %d: got %v, want %v", i, other, p.m.meta(g))
			}
		}
		v := mounts(t, p.d)
		fill(v.Meta())
		if !sameMeta(v.Meta(), p.m.meta(g)) {
			t.Errorf("Meta behind Mount: got %v", v.Meta())
		}
	}
}
