package volume_test

import (
	"bytes"
	"math"
	"testing"

	"moat/api"
	"moat/disk"
	"moat/volume"
)

// P15.2: Sync

// does makes sure of how many operations a thing makes.
func (p *pair) does(what string, want int, thing func()) {
	p.t.Helper()
	was := p.d.Done()
	thing()
	if n := p.d.Done() - was; n != want {
		p.t.Errorf("%s: %d operations, want %d", what, n, want)
	}
}

// operations returns how many operations a Sync of so many patches makes: they are stored, with their lists, and written; two heads; four flushes.
func operations(patches int) int {
	if patches == 0 {
		return 0
	}
	return patches + (patches+14)/15 + patches + 2 + 4
}

func TestSyncOfNothing(t *testing.T) {
	for _, g := range geometries() {
		p := newPair(t, g)
		p.does("Sync", 0, p.sync)
		p.alloc(1)
		p.does("Sync of an Alloc", operations(3), p.sync)
		p.does("Sync", 0, p.sync)
		p.does("Sync", 0, p.sync)
		// The power is not asked for where nothing is to be done.
		p.cut(0)
		p.sync()
		if p.d.Dead() {
			t.Error("the power went off")
		}
		off(t, p.d)
		off(t, p.m.d)
		p.sync()
		p.matches()
	}
}

// Each thing changes the sectors that it says, and no others; what is as it was is not written.
func TestSyncOfEachThing(t *testing.T) {
	p := newPair(t, wide)
	n := api.Inode{Kind: 2, Row: 1, Size: 9}
	for i, x := range []struct {
		patches int
		thing   func()
	}{
		{3, func() { p.alloc(2) }},            // labels, groups, bits
		{1, func() { p.write(0, sector(1)) }}, // the block
		{1, func() { p.write(0, sector(1)) }}, // also if it is the same
		{1, func() { p.alloc(2) }},            // bits
		{2, func() { p.free(0) }},             // bits, the block
		{2, func() { p.make(1, 2) }},          // labels, inodes
		{2, func() { p.make(2, 3) }},          // labels, the same inodes
		{2, func() { p.make(2, 3) }},          // labels, the next inodes
		{1, func() { p.set(2, n) }},           // inodes
		{0, func() { p.set(2, n) }},           // as it was
		{2, func() { p.unmake(2) }},           // labels, inodes
		{4, func() { p.free(1) }},             // labels, groups, bits, the block
		{0, func() { p.make(1, 2); p.unmake(2) }},
		{1, func() { p.alloc(7); p.free(0) }}, // the block
		{3, func() { p.alloc(7); p.write(0, sector(2)); p.free(0); p.make(1, 8) }},   // labels, inodes, the block
		{0, func() { p.free(-1); p.write(1, sector(1)); p.unmake(7); p.make(3, 0) }}, // nothing was done
		{0, func() { p.begin(); p.alloc(9); p.write(0, sector(3)); p.abort() }},      // nor here, in the end
		{4, func() { p.begin(); p.alloc(9); p.write(0, sector(3)); p.begin() }},      // labels, groups, bits, the block
		{1, func() { p.begin(); p.alloc(9); p.begin(); p.free(0); p.abort() }},       // bits
		{7, func() { p.free(1); p.free(0); p.unmake(0); p.unmake(1); p.unmake(2) }},  // all of it, and two blocks
	} {
		x.thing()
		if k := len(p.m.patches()); k != x.patches {
			t.Errorf("thing %d: the model writes %d patches, want %d", i, k, x.patches)
		}
		p.does("Sync", operations(x.patches), p.sync)
		p.matches()
		p.crash(0)
		p.matches()
	}
}

// busy changes something of each kind, so much that the journal needs more than one list.
func (p *pair) busy(c int) {
	for i := range min(p.m.count(), 20) {
		p.alloc(api.Label(c + i%3))
	}
	for i := range p.m.count() {
		if (i+c)%2 == 0 {
			p.write(p.m.count()-1-i, sector(c+i))
		}
		if (i+c)%7 == 3 {
			p.free(i)
		}
	}
	for i := range min(p.m.g.Inodes, 4) {
		p.make(uint8(1+i%2), api.Label(c+i))
		p.unmake(c % 3)
	}
}

// A Sync makes the operations that the chapters say, in their order, and none more; whatever fails ends it.
func TestSyncWithEachCutAsTheModel(t *testing.T) {
	for _, g := range []api.Geo{least, small, example, roomy} {
		for rounds := range 3 {
			length := 0
			for after := 0; after <= length; after++ {
				p := newPair(t, g)
				for c := range rounds {
					p.busy(c)
					p.sync()
				}
				p.busy(rounds)
				ops := committing(p.m.seq+1, p.m.patches())
				length = len(ops)
				p.cut(after)
				p.sync()
				p.matches()
				if p.d.Dead() != (after < length) {
					t.Fatalf("%v: Dead is %v, cut after %d of %d", g, p.d.Dead(), after, length)
				}
				sameCrashes(t, p.d, p.m.d, unsafeBehind(ops, after))
			}
		}
	}
}

// The tag is the label of the owner at the time when a block was written or freed, even if the group has another one by now.
func TestTagsOfASync(t *testing.T) {
	d := formatted(t, example, 0)
	v := mounts(t, d)
	for i := range 4 {
		allocates(t, v, 2, i, api.OK)
		if i < 3 {
			v.Write(i, sector(i))
		}
	}
	for i := range 4 {
		frees(t, v, i, api.OK)
	}
	allocates(t, v, 5, 0, api.OK)
	allocates(t, v, 5, 1, api.OK)
	allocates(t, v, 2, 4, api.OK)
	v.Write(1, sector(8))
	v.Write(4, sector(9))
	if v.Dirty() != 5 {
		t.Errorf("Dirty: got %d, want 5", v.Dirty())
	}
	if e := v.Sync(); e != api.OK {
		t.Fatalf("Sync: error %d", e)
	}
	d.Crash(0)
	zero := make([]byte, size)
	for i, x := range []struct {
		tag  api.Label
		want []byte
	}{{2, zero}, {5, sector(8)}, {2, zero}, {2, zero}, {2, sector(9)}, {0, zero}} {
		at := plan(example).Blocks + i
		a, _ := d.Tag(at)
		b, _ := d.Read(at)
		if a != x.tag || !bytes.Equal(b, x.want) {
			t.Errorf("block %d: got tag %d, %v; want tag %d, %v", i, a, b, x.tag, x.want)
		}
	}
	for at := plan(example).Labels; at < plan(example).Blocks; at++ {
		if a, e := d.Tag(at); a != 0 || e != api.OK {
			t.Errorf("sector %d: got tag %d, error %d", at, a, e)
		}
	}
}

// The metadata comes first, and then the blocks, both in increasing order, whatever the order in which they changed: the first so many patches are written if the power fails then.
func TestOrderOfASync(t *testing.T) {
	d := formatted(t, roomy, 0)
	v := mounts(t, d)
	for range 60 {
		v.Alloc(1)
	}
	order := []int{50, 3, 41, 0, 59, 17, 8, 33, 16, 1}
	for i, block := range order {
		v.Write(block, sector(i))
	}
	makes(t, v, 1, 1, 0, api.OK)
	at := plan(roomy)
	want := []int{at.Labels, at.Groups, at.Bits, at.Inodes}
	for _, block := range []int{0, 1, 3, 8, 16, 17, 33, 41, 50, 59} {
		want = append(want, at.Blocks+block)
	}
	d.Cut(len(want) + 1 + 1 + 1 + 1) // the list and the patches, a flush, the head, a flush: all of it is stored then
	if e := v.Sync(); e != api.ErrDead {
		t.Fatalf("Sync: error %d", e)
	}
	d.Crash(0)
	list, _ := d.Read(2)
	for i, sector := range want {
		if n := int(list[4*i]) + 256*int(list[4*i+1]); n != sector {
			t.Errorf("patch %d: sector %d, want %d", i, n, sector)
		}
	}
}

// With too many patches, nothing is done, and nothing is lost.
func TestSyncOfTooManyPatches(t *testing.T) {
	g := together // room for 85 patches
	for _, extra := range []int{-2, -1, 0, 1, 2, 100} {
		p := newPair(t, g)
		for range 300 {
			p.alloc(1)
		}
		p.sync()
		p.begin()
		count := room(g.Journal) + extra
		for i := range count {
			p.write(299-i, sector(i))
		}
		want := api.OK
		if extra > 0 {
			want = api.ErrLong
		}
		was := p.d.Done()
		if e := p.v.Sync(); e != want || e != p.m.sync() || (p.d.Done() == was) != (extra > 0) {
			t.Fatalf("Sync of %d patches: error %d, want %d; %d operations", count, e, want, p.d.Done()-was)
		}
		p.matches()
		// Begin needs a Sync, which fails; what an earlier Begin remembered may still be restored.
		p.begin()
		p.sync()
		p.matches()
		p.abort()
		p.matches()
		if n := p.v.Dirty(); n != 0 {
			t.Errorf("Dirty: got %d", n)
		}
		p.write(1, sector(7))
		p.sync()
		p.matches()
	}
}

// The metadata counts, too.
func TestSyncOfTooManyPatchesWithMetadata(t *testing.T) {
	for _, extra := range []int{0, 1} {
		p := newPair(t, together)
		for range 200 {
			p.alloc(1)
		}
		p.sync()
		for i := range room(together.Journal) - 3 + extra {
			p.write(i, sector(i))
		}
		p.alloc(1)
		p.make(1, 4)
		if e := p.v.Sync(); (e == api.OK) != (extra == 0) || (e == api.ErrLong) != (extra == 1) || e != p.m.sync() {
			t.Errorf("Sync: error %d", e)
		}
		p.matches()
	}
}

// Behind ErrDead, each Sync fails, also with the power on again, and with nothing to do.
func TestSyncBehindErrDead(t *testing.T) {
	for after := range operations(4) {
		p := newPair(t, example)
		p.alloc(2)
		p.sync()
		p.begin()
		p.write(p.alloc(9), sector(1))
		p.cut(after)
		p.sync()
		fails := func() {
			t.Helper()
			for range 2 {
				p.does("Sync", 0, func() { p.is("Sync", p.v.Sync(), api.ErrDead) })
			}
		}
		fails()
		p.crash(all)
		p.matches()
		fails()
		p.abort()
		p.matches()
		fails()
		p.begin()
		p.free(0)
		p.matches()
		fails()
		if v := mounts(t, p.d); v.Sync() != api.OK {
			t.Error("Sync behind Mount failed")
		}
	}
}

// A Begin that needs a Sync fails behind ErrDead, as that does; one that needs none does not.
func TestBeginBehindErrDead(t *testing.T) {
	g := api.Geo{Journal: 110, Inodes: 4, Groups: 1, PerGroup: 512} // room for 102 patches, and threshold 17
	for _, count := range []int{0, 16, 17, 18, 60, 200} {
		p := newPair(t, g)
		for range 300 {
			p.alloc(1)
		}
		p.sync()
		p.begin()
		p.alloc(1)
		p.cut(0)
		p.sync()
		for i := range count {
			p.write(i, sector(i))
		}
		want := api.OK
		if count > room(g.Journal)-parts(g)-reserve {
			want = api.ErrDead
		}
		p.is("Begin", p.v.Begin(), want)
		p.m.begin()
		// That there is too much to do comes behind it.
		p.is("Sync", p.v.Sync(), api.ErrDead)
		p.crash(0)
		p.abort()
		p.matches()
	}
}

// A read that fails does not end a volume.
func TestSyncBehindAPowerFailureThatItDidNotSee(t *testing.T) {
	p := newPair(t, example)
	p.write(p.alloc(1), sector(1))
	p.sync()
	p.write(p.alloc(1), sector(2))
	off(t, p.d)
	off(t, p.m.d)
	p.matches()
	p.crash(0)
	p.matches()
	p.sync()
	p.matches()
	has(t, mounts(t, p.d), 1, sector(2))
}

// Behind the last Seq there is none: the error is the journal's, and nothing is changed.
func TestSyncWithTheLastSeq(t *testing.T) {
	d := formatted(t, example, 0)
	puts(t, d, head(math.MaxUint64-1, 0)...)
	v := mounts(t, d)
	v.Alloc(1)
	if e := v.Sync(); e != api.OK {
		t.Errorf("Sync: error %d", e)
	}
	if e := v.Begin(); e != api.OK {
		t.Errorf("Begin: error %d", e)
	}
	was := v.Meta()
	v.Write(0, sector(1))
	v.Make(1, 2)
	for range 2 {
		done := d.Done()
		if e := v.Sync(); e != api.ErrArg || d.Done() != done || v.Dirty() != 1 {
			t.Errorf("Sync: error %d, %d operations, %d dirty blocks", e, d.Done()-done, v.Dirty())
		}
	}
	v.Abort()
	if e := v.Sync(); e != api.OK || v.Dirty() != 0 || !sameMeta(v.Meta(), was) {
		t.Errorf("Sync: error %d, %d dirty blocks, %v; want %v", e, v.Dirty(), v.Meta(), was)
	}
}

// P15.2: Begin

// With just as many blocks to be written as may be, Begin writes nothing; with one more, it does a Sync.
func TestBeginWithManyBlocks(t *testing.T) {
	for _, g := range []api.Geo{together, {Journal: 110, Inodes: 4, Groups: 1, PerGroup: 512}, {Journal: 130, Inodes: 64, Groups: 2, PerGroup: 100}, {Journal: 400, Inodes: 64, Groups: 64, PerGroup: 8}, fitting(2, 3, 7)} {
		most := room(g.Journal) - parts(g) - reserve
		for _, count := range []int{0, most - 1, most, most + 1, most + 2} {
			if count < 0 || count > g.Groups*g.PerGroup {
				continue
			}
			p := newPair(t, g)
			for range p.m.count() {
				p.alloc(1)
			}
			p.sync()
			for i := range count {
				p.write(i, sector(i))
			}
			want := 0
			if count > most {
				want = operations(count)
			}
			p.does("Begin", want, p.begin)
			if n := p.v.Dirty(); count <= most && n != count || count > most && n != 0 {
				t.Errorf("Dirty behind Begin: got %d of %d", n, count)
			}
			p.free(0)
			p.make(1, 2)
			p.write(1, sector(999))
			p.matches()
			// What was synced stays so.
			p.abort()
			p.matches()
			p.does("Begin", 0, p.begin)
			p.matches()
		}
	}
}

func TestBeginWhoseSyncFails(t *testing.T) {
	g := together
	p := newPair(t, g)
	for range 100 {
		p.alloc(1)
	}
	p.sync()
	p.begin()
	p.make(1, 5)
	p.write(0, sector(0))
	p.cut(4)
	p.is("Begin", p.v.Begin(), api.ErrDead)
	p.m.begin()
	p.matches()
	p.crash(0)
	p.is("Begin", p.v.Begin(), api.ErrDead)
	// It has not remembered anything: what the Begin before did is restored.
	p.abort()
	p.matches()
	if p.v.Dirty() != 0 {
		t.Errorf("Dirty: got %d", p.v.Dirty())
	}
}

// P15.2: Abort

// things are changes of each kind, each of them on top of those before.
func (p *pair) things() []func() {
	return []func(){
		func() { p.alloc(3) },
		func() { p.alloc(4) },
		func() { p.write(0, sector(50)) },
		func() { p.write(4, sector(51)) },
		func() { p.free(4) },
		func() { p.free(0) },
		func() { p.make(1, 6) },
		func() { p.make(2, 3) },
		func() { p.set(0, api.Inode{Kind: 1, Links: 1, Direct: [8]int{1}}) },
		func() { p.unmake(1) },
		func() { p.unmake(0) },
	}
}

// Behind an Abort all is as it was ahead of the Begin, for each first and last change between them.
func TestAbortOfEachChange(t *testing.T) {
	count := len((&pair{}).things())
	for from := range count {
		for to := from; to <= count; to++ {
			for _, syncs := range []bool{false, true} {
				p := newPair(t, wide)
				l := p.things()
				for _, thing := range l[:from] {
					thing()
				}
				if syncs {
					p.sync()
				}
				was, dirty := p.v.Meta(), p.v.Dirty()
				p.begin()
				for _, thing := range l[from:to] {
					thing()
				}
				p.matches()
				p.abort()
				p.matches()
				if !sameMeta(p.v.Meta(), was) || p.v.Dirty() != dirty {
					t.Fatalf("changes %d to %d: got %v, %d dirty blocks; want %v, %d", from, to, p.v.Meta(), p.v.Dirty(), was, dirty)
				}
				p.sync()
				p.matches()
			}
		}
	}
}

// An Abort restores the same state again and again, as long as there is no other Begin and no Sync.
func TestAbortTwice(t *testing.T) {
	p := newPair(t, wide)
	p.write(p.alloc(1), sector(1))
	p.make(1, 4)
	p.begin()
	for _, thing := range p.things() {
		thing()
		p.write(0, sector(60))
		p.make(2, 7)
		p.matches()
		p.abort()
		p.matches()
		p.abort()
		p.matches()
		has(t, p.v, 0, sector(1))
	}
	// What is restored is to be written still.
	p.does("Sync", operations(5), p.sync)
	p.matches()
}

func TestAbortWithoutABegin(t *testing.T) {
	p := newPair(t, wide)
	p.abort()
	p.matches()
	for _, thing := range p.things() {
		thing()
		p.v.Abort()
		p.matches()
	}
}

// A Sync ends what may be aborted, also if it had nothing to do; what is changed behind it stays.
func TestAbortBehindASync(t *testing.T) {
	for i := range 3 {
		p := newPair(t, wide)
		p.begin()
		if i > 0 {
			p.write(p.alloc(1), sector(1))
		}
		p.sync()
		p.v.Abort()
		p.matches()
		for _, thing := range p.things() {
			thing()
			p.v.Abort()
			p.matches()
		}
		if i > 1 {
			p.begin()
			p.make(1, 1)
			p.v.Abort()
			p.m.abort()
			p.matches()
		}
	}
}

// The last Begin counts.
func TestAbortBehindTwoBegins(t *testing.T) {
	p := newPair(t, wide)
	l := p.things()
	for _, thing := range l {
		p.begin()
		thing()
	}
	p.abort()
	p.matches()
	inodeIs(t, p.v, 0, api.Inode{Kind: 1, Links: 1, Direct: [8]int{1}}, 6)
}

// Two volumes share nothing, even on copies of one disk.
func TestVolumesAreIndependent(t *testing.T) {
	d := formatted(t, example, 0)
	one, two := mounts(t, d), mounts(t, d.Copy())
	one.Begin()
	one.Alloc(1)
	one.Write(0, sector(1))
	one.Make(1, 2)
	if two.Dirty() != 0 || !sameMeta(two.Meta(), empty(example)) {
		t.Errorf("got %d dirty blocks, %v", two.Dirty(), two.Meta())
	}
	two.Abort()
	has(t, one, 0, sector(1))
}

// Nothing hangs on the order of a map: the same calls leave the same sectors.
func TestSameCallsLeaveTheSameSectors(t *testing.T) {
	run := func() *disk.Disk {
		x := dice(77)
		d := used(t, plan(roomy).All)
		volume.Format(d, roomy)
		v := mounts(t, d)
		for c := range 3000 {
			switch x.under(12) {
			case 0, 1, 2:
				v.Alloc(api.Label(x.under(6)))
			case 3, 4, 5, 6:
				v.Write(x.under(160), sector(c))
			case 7, 8:
				v.Free(x.under(160))
			case 9:
				v.Make(1, api.Label(x.under(6)))
			case 10:
				v.Unmake(x.under(6))
			default:
				v.Begin()
				if x.under(3) == 0 {
					v.Abort()
				}
			}
		}
		v.Sync()
		return d
	}
	d, o := run(), run()
	sameDisk(t, d, o)
	if d.Done() < 1000 {
		t.Errorf("%d operations", d.Done())
	}
}
