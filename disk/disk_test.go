package disk_test

import (
	"bytes"
	"math"
	"slices"
	"testing"

	"moat/api"
	"moat/disk"
)

const all = math.MaxUint64

// face is what a sector should answer: 64 bytes and a tag, of which no two writes have the same.
type face struct {
	bytes []byte
	tag   api.Label
}

// faceOf returns the face of write c; 0 stands for a sector that was never written.
func faceOf(c int) face {
	b := make([]byte, 64)
	if c == 0 {
		return face{b, 0}
	}
	for i := range b {
		b[i] = byte(i + 7*c)
	}
	b[63], b[62] = byte(c/256), byte(c)
	return face{b, api.Label(65535 - c)}
}

func patch(sector, c int) api.Patch {
	f := faceOf(c)
	return api.Patch{Sector: sector, Bytes: f.bytes, Tag: f.tag}
}

func newDisk(t *testing.T, n int) *disk.Disk {
	t.Helper()
	d, e := disk.New(n)
	if d == nil || e != api.OK {
		t.Fatalf("New of %d: error %d", n, e)
	}
	return d
}

func writes(t *testing.T, d *disk.Disk, sector, c int, want api.Errno) {
	t.Helper()
	if e := d.Write(patch(sector, c)); e != want {
		t.Errorf("Write of sector %d: error %d, want %d", sector, e, want)
	}
}

func flushes(t *testing.T, d *disk.Disk, want api.Errno) {
	t.Helper()
	if e := d.Flush(); e != want {
		t.Errorf("Flush: error %d, want %d", e, want)
	}
}

func holds(t *testing.T, d *disk.Disk, sector, c int) {
	t.Helper()
	f := faceOf(c)
	if b, e := d.Read(sector); !bytes.Equal(b, f.bytes) || e != api.OK {
		t.Errorf("Read of sector %d: got %v, error %d; want %v", sector, b, e, f.bytes)
	}
	if a, e := d.Tag(sector); a != f.tag || e != api.OK {
		t.Errorf("Tag of sector %d: got %d, error %d; want %d", sector, a, e, f.tag)
	}
}

// holdsAll compares the disk with want, a number for each of its sectors.
func holdsAll(t *testing.T, d *disk.Disk, want ...int) {
	t.Helper()
	if d.Len() != len(want) {
		t.Fatalf("Len: got %d, want %d", d.Len(), len(want))
	}
	for i, c := range want {
		holds(t, d, i, c)
	}
}

// shut makes sure that a sector answers with an error and nothing else.
func shut(t *testing.T, d *disk.Disk, sector int, want api.Errno) {
	t.Helper()
	if b, e := d.Read(sector); len(b) != 0 || e != want {
		t.Errorf("Read of sector %d: got %d bytes, error %d; want error %d", sector, len(b), e, want)
	}
	if a, e := d.Tag(sector); a != 0 || e != want {
		t.Errorf("Tag of sector %d: got %d, error %d; want error %d", sector, a, e, want)
	}
}

func stands(t *testing.T, d *disk.Disk, dead bool, done int) {
	t.Helper()
	if d.Dead() != dead || d.Done() != done {
		t.Errorf("Dead and Done: got %v and %d, want %v and %d", d.Dead(), d.Done(), dead, done)
	}
}

// off takes the power away without an operation that is done.
func off(t *testing.T, d *disk.Disk) {
	t.Helper()
	d.Cut(0)
	flushes(t, d, api.ErrDead)
}

// P5.1

func TestNewOfEachSize(t *testing.T) {
	for _, n := range []int{0, 1, 2, 63, 64, 65, 255, 256, 4095, 4096} {
		d := newDisk(t, n)
		holdsAll(t, d, make([]int, n)...)
		stands(t, d, false, 0)
		for _, there := range []uint64{0, 1, all} {
			d.Crash(there)
			holdsAll(t, d, make([]int, n)...)
			stands(t, d, false, 0)
		}
	}
}

func TestNewRefusesSizes(t *testing.T) {
	for _, n := range []int{-1, 4097, -2, -4096, 4098, 8192, 1 << 16, 1<<31 - 1, 1 << 31, 1 << 32, 1<<32 + 4, math.MaxInt, math.MinInt, math.MinInt + 4} {
		if d, e := disk.New(n); d != nil || e != api.ErrArg {
			t.Errorf("New of %d: got %v, error %d", n, d != nil, e)
		}
	}
}

func TestNewDisksAreIndependent(t *testing.T) {
	d, other := newDisk(t, 2), newDisk(t, 2)
	writes(t, d, 1, 5, api.OK)
	off(t, d)
	holdsAll(t, other, 0, 0)
	stands(t, other, false, 0)
}

func TestDiskOfNoSectors(t *testing.T) {
	d := newDisk(t, 0)
	for _, at := range []int{-1, 0, 1} {
		writes(t, d, at, 1, api.ErrArg)
		shut(t, d, at, api.ErrArg)
	}
	flushes(t, d, api.OK)
	stands(t, d, false, 1)
	d.Cut(1)
	flushes(t, d, api.OK)
	flushes(t, d, api.ErrDead)
	shut(t, d, 0, api.ErrArg)
	stands(t, d, true, 2)
	d.Crash(all)
	flushes(t, d, api.OK)
	stands(t, d.Copy(), false, 3)
}

func TestZeroDiskHasNoSectors(t *testing.T) {
	var d disk.Disk
	flushes(t, &d, api.OK)
	writes(t, &d, 0, 1, api.ErrArg)
	shut(t, &d, 0, api.ErrArg)
	stands(t, &d, false, 1)
}

// The last bytes and tags count, whether they are safe or not; a flush makes any number of writes safe.
func TestWriteOfEverySectorOfTheGreatestDisk(t *testing.T) {
	d := newDisk(t, 4096)
	want := make([]int, 4096)
	for i := range want {
		want[i] = i + 1
		writes(t, d, i, want[i], api.OK)
	}
	holdsAll(t, d, want...)
	flushes(t, d, api.OK)
	holdsAll(t, d, want...)
	safe := slices.Clone(want)
	for i := range want {
		at := 4095 - i
		want[at] = 4097 + i
		writes(t, d, at, want[at], api.OK)
	}
	holdsAll(t, d, want...)
	stands(t, d, false, 8193)
	d.Crash(0)
	holdsAll(t, d, safe...)
	writes(t, d, 4096, 1, api.ErrArg)
	shut(t, d, 4096, api.ErrArg)
}

func TestWriteOfEachTagAndByte(t *testing.T) {
	d := newDisk(t, 3)
	for n := range 65536 {
		p := api.Patch{Sector: 1, Bytes: bytes.Repeat([]byte{byte(n)}, 64), Tag: api.Label(n)}
		p.Bytes[n%64] = byte(n / 256)
		e := d.Write(p)
		b, e1 := d.Read(1)
		a, e2 := d.Tag(1)
		if e != api.OK || e1 != api.OK || e2 != api.OK || !bytes.Equal(b, p.Bytes) || a != p.Tag {
			t.Fatalf("byte and tag %d: got %v and %d, errors %d, %d, %d", n, b, a, e, e1, e2)
		}
	}
	holds(t, d, 0, 0)
	holds(t, d, 2, 0)
}

func TestBytesOrTagAloneMayBeNew(t *testing.T) {
	one, other := patch(0, 1), patch(0, 2)
	for _, p := range []api.Patch{{Bytes: one.Bytes, Tag: other.Tag}, {Bytes: other.Bytes, Tag: one.Tag}} {
		d := newDisk(t, 1)
		writes(t, d, 0, 1, api.OK)
		flushes(t, d, api.OK)
		if e := d.Write(p); e != api.OK {
			t.Errorf("Write: error %d", e)
		}
		b, _ := d.Read(0)
		a, _ := d.Tag(0)
		if !bytes.Equal(b, p.Bytes) || a != p.Tag {
			t.Errorf("got %v and %d, want %v and %d", b, a, p.Bytes, p.Tag)
		}
		d.Crash(0)
		holds(t, d, 0, 1)
	}
}

func wrongSectors(n int) []int {
	return []int{-1, n, n + 1, -n, -n - 1, 2 * n, 4096, 1 << 16, 1 << 32, 1<<32 + 1, math.MaxInt, math.MinInt, math.MinInt + 1}
}

// wrongBytes are some whose number is not 64, among them nil.
func wrongBytes() [][]byte {
	l := [][]byte{nil, {}}
	for _, n := range []int{1, 32, 62, 63, 65, 66, 127, 128, 320, 64 + 256, 4096, 65536 + 64} {
		l = append(l, bytes.Repeat([]byte{9}, n))
	}
	return l
}

func wrongPatches(n int) []api.Patch {
	var l []api.Patch
	for _, at := range wrongSectors(n) {
		l = append(l, patch(at, 9))
	}
	for _, b := range wrongBytes() {
		for _, at := range []int{0, 1, n - 1, n, -1} {
			l = append(l, api.Patch{Sector: at, Bytes: b, Tag: 9})
		}
	}
	return l
}

func TestWriteRefusesPatches(t *testing.T) {
	d := newDisk(t, 3)
	writes(t, d, 1, 1, api.OK)
	d.Cut(1)
	for _, p := range wrongPatches(3) {
		if e := d.Write(p); e != api.ErrArg {
			t.Errorf("Write of %d bytes to sector %d: error %d", len(p.Bytes), p.Sector, e)
		}
		holdsAll(t, d, 0, 1, 0)
		stands(t, d, false, 1)
	}
	// What was refused has used up nothing of the cut, and has no number in the crash.
	writes(t, d, 2, 2, api.OK)
	writes(t, d, 2, 3, api.ErrDead)
	d.Crash(0b10)
	holdsAll(t, d, 0, 0, 2)
	stands(t, d, false, 2)
}

func TestRefusedWriteLeavesThePowerOn(t *testing.T) {
	d := newDisk(t, 3)
	d.Cut(0)
	for _, p := range wrongPatches(3) {
		if e := d.Write(p); e != api.ErrArg {
			t.Errorf("Write of %d bytes to sector %d: error %d", len(p.Bytes), p.Sector, e)
		}
		stands(t, d, false, 0)
		holdsAll(t, d, 0, 0, 0)
	}
	writes(t, d, 0, 1, api.ErrDead)
	stands(t, d, true, 0)
}

func TestReadAndTagRefuseSectors(t *testing.T) {
	d := newDisk(t, 3)
	for i := range 3 {
		writes(t, d, i, i+1, api.OK)
	}
	for _, at := range wrongSectors(3) {
		shut(t, d, at, api.ErrArg)
	}
	off(t, d)
	for _, at := range wrongSectors(3) {
		shut(t, d, at, api.ErrArg)
	}
	stands(t, d, true, 3)
}

func TestNothingWorksWhileThePowerIsOff(t *testing.T) {
	d := newDisk(t, 3)
	writes(t, d, 0, 1, api.OK)
	flushes(t, d, api.OK)
	writes(t, d, 1, 2, api.OK)
	off(t, d)
	for range 3 {
		for i := range 3 {
			writes(t, d, i, 9, api.ErrDead)
			shut(t, d, i, api.ErrDead)
		}
		flushes(t, d, api.ErrDead)
		for _, p := range wrongPatches(3) {
			if e := d.Write(p); e != api.ErrArg {
				t.Errorf("Write of %d bytes to sector %d: error %d", len(p.Bytes), p.Sector, e)
			}
		}
		stands(t, d, true, 3)
		if d.Len() != 3 {
			t.Errorf("Len: got %d", d.Len())
		}
	}
	// A flush without power has made nothing safe, and a write without power is none.
	kept := d.Copy()
	d.Crash(0)
	holdsAll(t, d, 1, 0, 0)
	kept.Crash(all)
	holdsAll(t, kept, 1, 2, 0)
}

func TestFlushMakesSafeWhatWasWritten(t *testing.T) {
	d := newDisk(t, 4)
	flushes(t, d, api.OK)
	writes(t, d, 0, 1, api.OK)
	writes(t, d, 1, 2, api.OK)
	writes(t, d, 0, 3, api.OK)
	flushes(t, d, api.OK)
	flushes(t, d, api.OK)
	holdsAll(t, d, 3, 2, 0, 0)
	stands(t, d, false, 6)
	d.Crash(0)
	holdsAll(t, d, 3, 2, 0, 0)
	writes(t, d, 2, 4, api.OK)
	writes(t, d, 0, 5, api.OK)
	d.Crash(0)
	holdsAll(t, d, 3, 2, 0, 0)
	stands(t, d, false, 8)
}

func TestDoneCountsWhatReturnedOK(t *testing.T) {
	d := newDisk(t, 2)
	for n := range 200 {
		stands(t, d, false, n)
		if n%3 == 2 {
			flushes(t, d, api.OK)
		} else {
			writes(t, d, n%2, n+1, api.OK)
			holds(t, d, n%2, n+1)
		}
		writes(t, d, 2, 1, api.ErrArg)
		shut(t, d, 2, api.ErrArg)
	}
	off(t, d)
	flushes(t, d, api.ErrDead)
	stands(t, d, true, 200)
	d.Crash(0)
	stands(t, d, false, 200)
	flushes(t, d, api.OK)
	stands(t, d, false, 201)
}

func TestWriteTakesACopy(t *testing.T) {
	d := newDisk(t, 2)
	f := faceOf(3)
	// What lies behind the end is neither read nor changed.
	room := slices.Concat(f.bytes, []byte{238, 238, 238})
	if e := d.Write(api.Patch{Sector: 1, Bytes: room[:64], Tag: f.tag}); e != api.OK {
		t.Errorf("Write: error %d", e)
	}
	if !bytes.Equal(room, slices.Concat(f.bytes, []byte{238, 238, 238})) {
		t.Errorf("Write changed its argument to %v", room)
	}
	clear(room)
	holds(t, d, 1, 3)
	c := d.Copy()
	flushes(t, d, api.OK)
	clear(room)
	d.Crash(0)
	holdsAll(t, d, 0, 3)
	c.Crash(1)
	holdsAll(t, c, 0, 3)
}

func TestReadReturnsNewMemory(t *testing.T) {
	d := newDisk(t, 2)
	spoil := func() {
		for at := range 2 {
			b, e := d.Read(at)
			if len(b) != 64 || e != api.OK {
				t.Fatalf("Read: %d bytes, error %d", len(b), e)
			}
			other, _ := d.Read(at)
			b = b[:cap(b)]
			for i := range b {
				b[i]++
			}
			if bytes.Equal(b[:64], other) {
				t.Errorf("two results of sector %d share memory", at)
			}
		}
	}
	spoil()
	holdsAll(t, d, 0, 0)
	writes(t, d, 1, 2, api.OK)
	spoil()
	c := d.Copy()
	spoil()
	holdsAll(t, c, 0, 2)
	flushes(t, d, api.OK)
	spoil()
	d.Crash(0)
	holdsAll(t, d, 0, 2)
	c.Crash(1)
	holdsAll(t, c, 0, 2)
}

// P5.2

func TestCutAfterEachNumberOfOperations(t *testing.T) {
	for before := range 3 {
		for after := range 140 {
			d := newDisk(t, 2)
			for range before {
				flushes(t, d, api.OK)
			}
			d.Cut(after)
			for n := range after {
				if n%5 == 3 {
					flushes(t, d, api.OK)
				} else {
					writes(t, d, 0, n+1, api.OK)
				}
				stands(t, d, false, before+n+1)
			}
			holds(t, d, 1, 0)
			// The one that it goes off before may be of either kind.
			if after%2 == 0 {
				writes(t, d, 1, 1, api.ErrDead)
			} else {
				flushes(t, d, api.ErrDead)
			}
			stands(t, d, true, before+after)
			writes(t, d, 1, 1, api.ErrDead)
			flushes(t, d, api.ErrDead)
			stands(t, d, true, before+after)
		}
	}
}

func TestCutWaitsForTheNextOperation(t *testing.T) {
	d := newDisk(t, 2)
	writes(t, d, 0, 1, api.OK)
	d.Cut(0)
	for range 100 {
		stands(t, d, false, 1)
		holdsAll(t, d, 1, 0)
		shut(t, d, 2, api.ErrArg)
	}
	writes(t, d, 1, 2, api.ErrDead)
	stands(t, d, true, 1)
}

func TestCutOfANegativeNumberIsNone(t *testing.T) {
	for _, none := range []int{-1, -2, -64, math.MinInt, math.MinInt + 1} {
		for _, earlier := range []int{-1, 0, 1, 7, math.MaxInt} {
			d := newDisk(t, 1)
			d.Cut(earlier)
			d.Cut(none)
			for n := range 100 {
				writes(t, d, 0, n, api.OK)
				flushes(t, d, api.OK)
			}
			stands(t, d, false, 200)
		}
	}
}

func TestCutReplacesAnEarlierCut(t *testing.T) {
	d := newDisk(t, 1)
	for _, earlier := range []int{5, 0, 1, math.MaxInt, -1} {
		d.Cut(earlier)
		d.Cut(3)
		flushes(t, d, api.OK)
		d.Cut(earlier)
		d.Cut(1)
		flushes(t, d, api.OK)
		flushes(t, d, api.ErrDead)
		d.Crash(0)
	}
	stands(t, d, false, 10)
}

func TestCutOfTheGreatestNumber(t *testing.T) {
	for _, after := range []int{1000, 1<<31 - 1, 1 << 32, math.MaxInt - 1, math.MaxInt} {
		d := newDisk(t, 1)
		d.Cut(after)
		for range 1000 {
			flushes(t, d, api.OK)
		}
		stands(t, d, false, 1000)
	}
}

func TestCutWhileThePowerIsOff(t *testing.T) {
	for _, after := range []int{-1, 0, 1, 5, math.MaxInt, math.MinInt} {
		d := newDisk(t, 1)
		writes(t, d, 0, 1, api.OK)
		off(t, d)
		d.Cut(after)
		stands(t, d, true, 1)
		writes(t, d, 0, 2, api.ErrDead)
		flushes(t, d, api.ErrDead)
		shut(t, d, 0, api.ErrDead)
		d.Crash(1)
		for n := range 20 {
			holds(t, d, 0, n+1)
			writes(t, d, 0, n+2, api.OK)
		}
		stands(t, d, false, 21)
	}
}

func TestCrashEndsACut(t *testing.T) {
	for after := range 8 {
		for done := range after + 2 {
			d := newDisk(t, 1)
			d.Cut(after)
			for n := range done {
				want := api.OK
				if n == after {
					want = api.ErrDead
				}
				writes(t, d, 0, n+1, want)
			}
			stands(t, d, done > after, min(done, after))
			d.Crash(0)
			stands(t, d, false, min(done, after))
			for n := range 20 {
				writes(t, d, 0, n+1, api.OK)
			}
			holds(t, d, 0, 20)
		}
	}
}

func TestExamplesOfCrash(t *testing.T) {
	d := newDisk(t, 5)
	writes(t, d, 3, 1, api.OK)
	flushes(t, d, api.OK)
	writes(t, d, 3, 2, api.OK)
	writes(t, d, 4, 3, api.OK)
	d.Crash(0b10)
	holdsAll(t, d, 0, 0, 0, 1, 3)
	stands(t, d, false, 4)
}

// Of several writes of one sector, the last that survives counts, as if the others had not been.
func TestCrashOfASectorWrittenSeveralTimes(t *testing.T) {
	for there, want := range []int{1, 2, 3, 3, 4, 4, 4, 4} {
		for _, dead := range []bool{false, true} {
			d := newDisk(t, 2)
			writes(t, d, 0, 1, api.OK)
			flushes(t, d, api.OK)
			for c := 2; c <= 4; c++ {
				writes(t, d, 0, c, api.OK)
			}
			holdsAll(t, d, 4, 0)
			if dead {
				off(t, d)
			}
			d.Crash(uint64(there))
			holdsAll(t, d, want, 0)
			stands(t, d, false, 5)
		}
	}
}

// Bit i modulo 64 stands for write i: each bit alone, and each alone missing.
func TestCrashOfMoreThan64Writes(t *testing.T) {
	for bit := range 64 {
		for _, there := range []uint64{1 << bit, all - 1<<bit} {
			d := newDisk(t, 200)
			want := make([]int, 200)
			for i := range 200 {
				writes(t, d, i, i+1, api.OK)
				if (i%64 == bit) == (there == 1<<bit) {
					want[i] = i + 1
				}
			}
			d.Crash(there)
			holdsAll(t, d, want...)
		}
	}
}

func TestCrashOfOneSectorWrittenMoreThan64Times(t *testing.T) {
	for bit := range 64 {
		for _, n := range []int{1, 63, 64, 65, 127, 128, 129, 200} {
			d := newDisk(t, 1)
			want := 0
			for i := range n {
				writes(t, d, 0, i+1, api.OK)
				if i%64 == bit {
					want = i + 1
				}
			}
			d.Crash(1 << bit)
			holds(t, d, 0, want)
		}
	}
}

// Writes are numbered from the last flush or crash on, and what was refused has no number.
func TestCrashNumbersWritesAnew(t *testing.T) {
	d := newDisk(t, 4)
	writes(t, d, 0, 1, api.OK)
	writes(t, d, 1, 2, api.OK)
	flushes(t, d, api.OK)
	writes(t, d, 4, 9, api.ErrArg)
	writes(t, d, 2, 3, api.OK)
	writes(t, d, 3, 4, api.OK)
	d.Crash(0b01)
	holdsAll(t, d, 1, 2, 3, 0)
	writes(t, d, 0, 5, api.OK)
	writes(t, d, 1, 6, api.OK)
	d.Cut(0)
	flushes(t, d, api.ErrDead)
	d.Crash(0b10)
	holdsAll(t, d, 1, 6, 3, 0)
	writes(t, d, 3, 7, api.OK)
	d.Crash(0b1)
	holdsAll(t, d, 1, 6, 3, 7)
}

func TestCrashMakesEverythingSafe(t *testing.T) {
	for there := range uint64(8) {
		d := newDisk(t, 3)
		for i := range 3 {
			writes(t, d, i, i+1, api.OK)
		}
		d.Crash(there)
		var want []int
		for i := range 3 {
			want = append(want, int(there>>i&1)*(i+1))
		}
		for _, again := range []uint64{0, all, ^there, there} {
			holdsAll(t, d, want...)
			off(t, d)
			d.Crash(again)
		}
		holdsAll(t, d, want...)
		stands(t, d, false, 3)
	}
}

func TestCopyIsTheSame(t *testing.T) {
	d := newDisk(t, 3)
	same := func(want ...int) {
		t.Helper()
		c := d.Copy()
		stands(t, c, d.Dead(), d.Done())
		if c.Len() != d.Len() || c == d {
			t.Errorf("Copy: %d sectors, or the disk itself", c.Len())
		}
		if d.Dead() {
			shut(t, c, 0, api.ErrDead)
			return
		}
		holdsAll(t, c, want...)
	}
	same(0, 0, 0)
	writes(t, d, 0, 1, api.OK)
	flushes(t, d, api.OK)
	same(1, 0, 0)
	writes(t, d, 0, 2, api.OK)
	writes(t, d, 1, 3, api.OK)
	same(2, 3, 0)
	off(t, d)
	same()
	d.Crash(0b10)
	same(1, 3, 0)
}

// A copy knows which writes are not safe, and how they are numbered.
func TestCopyOfWritesThatAreNotSafe(t *testing.T) {
	for _, dead := range []bool{false, true} {
		for there := range uint64(4) {
			d := newDisk(t, 2)
			writes(t, d, 0, 1, api.OK)
			writes(t, d, 1, 2, api.OK)
			if dead {
				off(t, d)
			}
			c := d.Copy()
			c.Crash(there)
			holdsAll(t, c, int(there&1), int(there&2))
			if d.Dead() != dead {
				t.Errorf("the power of a disk changed with its copy's")
			}
			d.Crash(all - there)
			holdsAll(t, d, int(1-there&1), int(2-there&2))
			holdsAll(t, c, int(there&1), int(there&2))
		}
	}
}

func TestCopyOfACut(t *testing.T) {
	d := newDisk(t, 1)
	d.Cut(3)
	flushes(t, d, api.OK)
	c := d.Copy()
	d.Cut(-1)
	for range 2 {
		flushes(t, d, api.OK)
		flushes(t, c, api.OK)
	}
	flushes(t, c, api.ErrDead)
	stands(t, c, true, 3)
	flushes(t, d, api.OK)
	stands(t, d, false, 4)
	last := c.Copy()
	c.Crash(0)
	flushes(t, c, api.OK)
	stands(t, c, false, 4)
	stands(t, last, true, 3)
}

func TestCopyIsIndependent(t *testing.T) {
	for _, swap := range []bool{false, true} {
		d := newDisk(t, 3)
		writes(t, d, 0, 1, api.OK)
		flushes(t, d, api.OK)
		writes(t, d, 1, 2, api.OK)
		c := d.Copy()
		if swap {
			d, c = c, d
		}
		// Each is given a second write, which must not land among the other's.
		writes(t, d, 2, 3, api.OK)
		writes(t, c, 0, 4, api.OK)
		holdsAll(t, d, 1, 2, 3)
		holdsAll(t, c, 4, 2, 0)
		stands(t, d, false, 4)
		stands(t, c, false, 4)
		flushes(t, d, api.OK)
		holdsAll(t, c, 4, 2, 0)
		c.Crash(0b10)
		holdsAll(t, c, 4, 0, 0)
		holdsAll(t, d, 1, 2, 3)
		d.Crash(0)
		holdsAll(t, d, 1, 2, 3)
		off(t, d)
		holdsAll(t, c, 4, 0, 0)
		stands(t, c, false, 4)
	}
}

func TestNilDisk(t *testing.T) {
	var d *disk.Disk
	for _, p := range append(wrongPatches(3), patch(0, 1), api.Patch{}) {
		if e := d.Write(p); e != api.ErrNone {
			t.Errorf("Write to sector %d: error %d", p.Sector, e)
		}
	}
	for _, n := range []int{-1, 0, 1, math.MaxInt, math.MinInt} {
		shut(t, d, n, api.ErrNone)
		d.Cut(n)
		d.Crash(uint64(n))
		flushes(t, d, api.ErrNone)
		stands(t, d, false, 0)
	}
	if d.Len() != 0 || d.Copy() != nil {
		t.Errorf("Len and Copy: got %d and %v", d.Len(), d.Copy() != nil)
	}
}

// P5.3

// What was safe, and has not been written since, is there after each cut of what follows and each crash.
func TestWhatWasSafeRemains(t *testing.T) {
	for after := -1; after <= 8; after++ {
		for there := range uint64(128) {
			d := newDisk(t, 6)
			for i := range 6 {
				writes(t, d, i, i+1, api.OK)
			}
			flushes(t, d, api.OK)
			d.Cut(after)
			for n, at := range []int{1, 4, 1, 1, 4, 1, 4} {
				d.Write(patch(at, 10+n))
				d.Write(api.Patch{Sector: 0, Bytes: make([]byte, 63)})
			}
			d.Crash(there)
			for _, at := range []int{0, 2, 3, 5} {
				holds(t, d, at, at+1)
			}
		}
	}
}

// After a crash, the bytes and the tag of a sector are those of one write: of the last that survives, or of the one that was safe.
func TestBytesAndTagAreOfOneWrite(t *testing.T) {
	for there := range uint64(256) {
		d := newDisk(t, 2)
		writes(t, d, 0, 1, api.OK)
		writes(t, d, 1, 2, api.OK)
		flushes(t, d, api.OK)
		want := []int{1, 2}
		for n := range 8 {
			writes(t, d, n%2, 10+n, api.OK)
			if there>>n&1 == 1 {
				want[n%2] = 10 + n
			}
		}
		d.Cut(int(there % 3))
		d.Flush()
		d.Crash(there)
		if there%3 != 0 {
			want = []int{16, 17}
		}
		holdsAll(t, d, want...)
	}
}
