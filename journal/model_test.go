package journal_test

import (
	"bytes"
	"encoding/binary"
	"hash/adler32"
	"slices"
	"testing"

	"moat/api"
	"moat/disk"
	"moat/journal"
)

// An operation of a disk: the write of a patch, or a flush if there is none.
type operation struct{ patch *api.Patch }

func writesOf(l []api.Patch) []operation {
	var ops []operation
	for _, p := range l {
		ops = append(ops, operation{&p})
	}
	return ops
}

// sealed is b with the library's checksum behind it.
func sealed(b []byte) []byte {
	return binary.LittleEndian.AppendUint32(slices.Clone(b), adler32.Checksum(b))
}

func headBytes(seq uint64, count int) []byte {
	b := make([]byte, 60)
	binary.LittleEndian.PutUint64(b, seq)
	binary.LittleEndian.PutUint16(b[8:], uint16(count))
	return sealed(b)
}

func headAt(from int, seq uint64, count int) []api.Patch {
	return []api.Patch{{Sector: from, Bytes: headBytes(seq, count)}}
}

// storedAt returns what the sectors behind a head must be so that they store l.
func storedAt(from int, l []api.Patch) []api.Patch {
	var s []api.Patch
	for i, p := range l {
		if i%15 == 0 {
			s = append(s, api.Patch{Sector: from + 1 + len(s), Bytes: make([]byte, 64)})
		}
		word := s[i/15*16].Bytes[i%15*4:]
		binary.LittleEndian.PutUint16(word, uint16(p.Sector))
		binary.LittleEndian.PutUint16(word[2:], uint16(p.Tag))
		s = append(s, api.Patch{Sector: from + 1 + len(s), Bytes: p.Bytes, Tag: p.Tag})
	}
	return s
}

// steps returns the operations that write lists of patches, each with a flush behind it.
func steps(lists ...[]api.Patch) []operation {
	var ops []operation
	for _, l := range lists {
		ops = append(append(ops, writesOf(l)...), operation{})
	}
	return ops
}

// replaying returns the operations of an Open that replays l.
func replaying(from int, seq uint64, l []api.Patch) []operation {
	return steps(l, headAt(from, seq, 0))
}

// committing returns the operations of a Commit of l that makes seq the new Seq.
func committing(from int, seq uint64, l []api.Patch) []operation {
	return steps(storedAt(from, l), headAt(from, seq, len(l)), l, headAt(from, seq, 0))
}

// perform does operations up to the first that fails.
func perform(d *disk.Disk, ops []operation) api.Errno {
	for _, o := range ops {
		e := api.OK
		if o.patch == nil {
			e = d.Flush()
		} else {
			e = d.Write(*o.patch)
		}
		if e != api.OK {
			return e
		}
	}
	return api.OK
}

// sameDisk compares two disks.
func sameDisk(t *testing.T, d, o *disk.Disk) {
	t.Helper()
	if d.Dead() != o.Dead() || d.Done() != o.Done() {
		t.Errorf("Dead and Done: got %v and %d, want %v and %d", d.Dead(), d.Done(), o.Dead(), o.Done())
	}
	for i := range o.Len() {
		b, e1 := d.Read(i)
		a, e2 := d.Tag(i)
		ob, o1 := o.Read(i)
		oa, o2 := o.Tag(i)
		if !bytes.Equal(b, ob) || a != oa || e1 != o1 || e2 != o2 {
			t.Errorf("sector %d: got %v, tag %d, error %d; want %v, tag %d, error %d", i, b, a, e1, ob, oa, o1)
		}
	}
}

// survivals returns which of n unsafe writes survive: every kind if they are few, and otherwise all, none, every other one, and each alone.
func survivals(n int) []uint64 {
	if n <= 6 {
		var l []uint64
		for there := range uint64(1) << n {
			l = append(l, there)
		}
		return l
	}
	l := []uint64{0, all, 0x5555555555555555, 0xAAAAAAAAAAAAAAAA}
	for k := range min(n, 64) {
		l = append(l, 1<<k)
	}
	return l
}

// sameCrashes compares what two disks become by crashes: so the order of their writes is compared too, and which are safe.
func sameCrashes(t *testing.T, d, o *disk.Disk, unsafe int) {
	t.Helper()
	for _, there := range survivals(unsafe) {
		a, b := d.Copy(), o.Copy()
		a.Crash(there)
		b.Crash(there)
		sameDisk(t, a, b)
		if t.Failed() {
			t.Fatalf("crash with the bits %b", there)
		}
	}
}

// unsafeBehind returns how many writes are not safe behind the first n operations.
func unsafeBehind(ops []operation, n int) int {
	k := 0
	for _, o := range ops[:min(n, len(ops))] {
		k++
		if o.patch == nil {
			k = 0
		}
	}
	return k
}

// cuts returns ahead of which operations the power is to go off, and one number behind them all: each, or those around the flushes if there are many.
func cuts(ops []operation) []int {
	var l []int
	for k := range len(ops) + 1 {
		edge := k+2 >= len(ops) || k < 2 || slices.ContainsFunc(ops[k-2:k+2], func(o operation) bool { return o.patch == nil })
		if edge || len(ops) < 100 {
			l = append(l, k)
		}
	}
	return l
}

// P7.3

// A Commit makes the operations that the chapter says, in their order, and none more; whatever fails ends it.
func TestCommitWithEachCutAsTheModel(t *testing.T) {
	for _, p := range smallPlaces() {
		for _, n := range counts(p.room())[1:] {
			base := p.disk(t)
			puts(t, base, headAt(p.from, 6, 0)...)
			for _, after := range cuts(committing(p.from, 7, p.patches(n, 1))) {
				commitAsTheModel(t, base, p, n, after)
			}
		}
	}
}

func TestCommitOnGreatDisksAsTheModel(t *testing.T) {
	for _, p := range greatPlaces() {
		for _, n := range counts(p.room())[1:] {
			base := p.disk(t)
			puts(t, base, headAt(p.from, 6, 0)...)
			ops := committing(p.from, 7, p.patches(n, 1))
			commitAsTheModel(t, base, p, n, len(ops))
		}
	}
}

// commitAsTheModel commits n patches on a disk whose Seq is 6.
func commitAsTheModel(t *testing.T, base *disk.Disk, p place, n, after int) {
	t.Helper()
	l := p.patches(n, 1)
	ops := committing(p.from, 7, l)
	d := base.Copy()
	j, want := opens(t, d, p, 0, 6), d.Copy()
	d.Cut(after)
	want.Cut(after)
	e := perform(want, ops)
	commits(t, j, l, e)
	if e == api.OK && j.Seq() != 7 {
		t.Errorf("Seq: got %d, want 7", j.Seq())
	}
	// Once the new head is written, the journal must be opened again.
	if after <= len(storedAt(p.from, l))+1 && j.Seq() != 6 {
		t.Errorf("Seq: got %d, want 6", j.Seq())
	}
	sameDisk(t, d, want)
	sameCrashes(t, d, want, unsafeBehind(ops, after))
	if t.Failed() {
		t.Fatalf("%+v, %d patches, cut after %d", p, n, after)
	}
}

// P7.1

// An Open replays by the operations that the chapter says, in their order, and none more; whatever fails ends it.
func TestOpenWithEachCutAsTheModel(t *testing.T) {
	for _, p := range smallPlaces() {
		for _, n := range counts(p.room())[1:] {
			base := storing(t, p, n)
			for _, after := range cuts(replaying(p.from, 9, p.patches(n, 1))) {
				openAsTheModel(t, base, p, n, after)
			}
		}
	}
}

func TestOpenOnGreatDisksAsTheModel(t *testing.T) {
	for _, p := range greatPlaces() {
		for _, n := range counts(p.room())[1:] {
			ops := replaying(p.from, 9, p.patches(n, 1))
			openAsTheModel(t, storing(t, p, n), p, n, len(ops))
		}
	}
}

// storing returns a disk whose Seq is 9, and on which n patches are stored.
func storing(t *testing.T, p place, n int) *disk.Disk {
	t.Helper()
	d := p.disk(t)
	puts(t, d, storedAt(p.from, p.patches(n, 1))...)
	puts(t, d, headAt(p.from, 9, n)...)
	return d
}

// openAsTheModel opens a journal in which n patches are stored.
func openAsTheModel(t *testing.T, base *disk.Disk, p place, n, after int) {
	t.Helper()
	ops := replaying(p.from, 9, p.patches(n, 1))
	d, want := base.Copy(), base.Copy()
	d.Cut(after)
	want.Cut(after)
	if perform(want, ops) == api.OK {
		opens(t, d, p, n, 9)
	} else {
		fails(t, d, p, api.ErrDead)
	}
	sameDisk(t, d, want)
	sameCrashes(t, d, want, unsafeBehind(ops, after))
	if t.Failed() {
		t.Fatalf("%+v, %d patches, cut after %d", p, n, after)
	}
}

// P7.4 and P7.5

// written tells of sectors which of two writes each has; neither is -1.
func written(t *testing.T, d *disk.Disk, old, now []api.Patch) []int {
	t.Helper()
	var l []int
	for i := range now {
		b, _ := d.Read(now[i].Sector)
		a, _ := d.Tag(now[i].Sector)
		k := slices.IndexFunc([]api.Patch{old[i], now[i]}, func(p api.Patch) bool { return bytes.Equal(b, p.Bytes) && a == p.Tag })
		l = append(l, k)
	}
	return l
}

// allOrNone makes sure that all sectors are as of old, or all as of now, and returns which: 0 or 1.
func allOrNone(t *testing.T, d *disk.Disk, old, now []api.Patch) int {
	t.Helper()
	l := slices.Compact(written(t, d, old, now))
	if len(l) != 1 || l[0] < 0 {
		t.Fatalf("of the patches are written: %v", written(t, d, old, now))
	}
	return l[0]
}

// opensAgain makes sure that opening again has no effect.
func opensAgain(t *testing.T, d *disk.Disk, p place, seq uint64) {
	t.Helper()
	want := d.Copy()
	for range 2 {
		opens(t, d, p, 0, seq)
		sameDisk(t, d, want)
	}
}

// The power fails in a Commit, ahead of each operation, and then in the Open behind it, ahead of each again, each time with every kind of survival.
func TestAllOrNoneWithEachCutOfCommitAndOpen(t *testing.T) {
	p := place{10, 2, 6}
	for n := 1; n <= 4; n++ {
		old, now := p.patches(n, 1), p.patches(n, 50)
		base := p.disk(t)
		if e := opens(t, base, p, 0, 0).Commit(old); e != api.OK {
			t.Fatalf("Commit: error %d", e)
		}
		ops := committing(p.from, 2, now)
		for after := range len(ops) + 1 {
			d := base.Copy()
			j := opens(t, d, p, 0, 1)
			d.Cut(after)
			e := j.Commit(now)
			for _, there := range survivals(unsafeBehind(ops, after)) {
				c := d.Copy()
				c.Crash(there)
				openWithEachCut(t, c, p, old, now, e == api.OK)
				if t.Failed() {
					t.Fatalf("%d patches, cut after %d, crash with the bits %b", n, after, there)
				}
			}
		}
	}
}

// openWithEachCut opens what a crash left, once with the power failing ahead of each operation and then without.
func openWithEachCut(t *testing.T, base *disk.Disk, p place, old, now []api.Patch, must bool) {
	t.Helper()
	ops := replaying(p.from, 2, now)
	for after := range len(ops) + 1 {
		for _, there := range survivals(unsafeBehind(ops, after)) {
			d := base.Copy()
			d.Cut(after)
			j, _, e := journal.Open(d, p.from, p.n)
			if e != api.OK && (e != api.ErrDead || j != nil || after >= len(ops)) {
				t.Fatalf("Open cut after %d: error %d", after, e)
			}
			d.Crash(there)
			j, _, e = journal.Open(d, p.from, p.n)
			if e != api.OK {
				t.Fatalf("Open cut after %d, and again: error %d", after, e)
			}
			k := allOrNone(t, d, old, now)
			if must && k == 0 {
				t.Fatalf("a Commit that returned OK is not written")
			}
			if want := uint64(k + 1); j.Seq() != want {
				t.Fatalf("Seq: got %d, want %d", j.Seq(), want)
			}
			opensAgain(t, d, p, j.Seq())
		}
	}
}

// dice are numbers that look like no rule, and are the same each time.
type dice uint64

func (x *dice) under(n int) int {
	*x = *x*6364136223846793005 + 1442695040888963407
	return int(uint64(*x) >> 33 % uint64(n))
}

func (x *dice) bits() uint64 { return uint64(x.under(1<<31))<<33 ^ uint64(x.under(1<<31)) }

// some returns patches of sectors that the dice say, the same ones among them if they say so.
func (x *dice) some(p place, c int) []api.Patch {
	free := p.free()
	l := make([]api.Patch, x.under(p.room()+1))
	for i := range l {
		l[i] = patch(free[x.under(len(free))], c+i)
	}
	return l
}

// after returns what sectors are behind patches.
func after(state []api.Patch, l []api.Patch) []api.Patch {
	s := slices.Clone(state)
	for _, p := range l {
		s[p.Sector] = p
	}
	return s
}

// state returns all sectors of a disk.
func state(d *disk.Disk) []api.Patch {
	var l []api.Patch
	for i := range d.Len() {
		b, _ := d.Read(i)
		a, _ := d.Tag(i)
		l = append(l, api.Patch{Sector: i, Bytes: b, Tag: a})
	}
	return l
}

// equal compares those sectors of two states that are not the journal's.
func equal(p place, a, b []api.Patch) bool {
	for _, i := range p.free() {
		if !bytes.Equal(a[i].Bytes, b[i].Bytes) || a[i].Tag != b[i].Tag {
			return false
		}
	}
	return true
}

// Many Commits behind each other, with power failures in them and in the Opens behind them.
func TestLongRunsAreAllOrNone(t *testing.T) {
	for seed := range 40 {
		x := dice(seed)
		p := place{size: 60, from: x.under(20), n: 3 + x.under(37)}
		d := p.disk(t)
		j, have := opens(t, d, p, 0, 0), state(d)
		for c := range 100 {
			l := x.some(p, c*40)
			next := after(have, l)
			d.Cut(x.under(3*len(l) + 30))
			e := j.Commit(l)
			if seq := j.Seq(); e == api.OK {
				d.Crash(x.bits())
				j = opens(t, d, p, 0, seq)
				have = next
			}
			for e != api.OK {
				d.Crash(x.bits())
				d.Cut(x.under(2*len(l) + 8))
				j, _, e = journal.Open(d, p.from, p.n)
			}
			d.Crash(0)
			now := state(d)
			if !equal(p, now, have) && !equal(p, now, next) {
				t.Fatalf("run %d, Commit %d: neither all of it nor nothing is written", seed, c)
			}
			have = now
			opensAgain(t, d, p, j.Seq())
		}
	}
}

func TestSameCallsLeaveTheSameSectors(t *testing.T) {
	run := func() *disk.Disk {
		x := dice(77)
		p := place{60, 11, 30}
		d := p.disk(t)
		j := opens(t, d, p, 0, 0)
		for c := range 100 {
			if e := j.Commit(x.some(p, c*40)); e != api.OK {
				t.Fatalf("Commit %d: error %d", c, e)
			}
		}
		return d
	}
	d, o := run(), run()
	sameDisk(t, d, o)
	if d.Done() < 1000 {
		t.Errorf("%d operations", d.Done())
	}
}
