package file_test

import (
	"math"
	"slices"
	"testing"

	"moat/api"
	"moat/disk"
	"moat/file"
	"moat/volume"
)

// P16.2: no block is left

// A Write ends at each of the allocations that it does: the blocks allocated so far remain, and nothing else has changed.
func TestWriteWithoutRoom(t *testing.T) {
	for _, x := range []struct{ at, n, need int }{{0, most, 63}, {0, 1, 1}, {500, 100, 4}, {600, 1, 2}, {2550, 20, 5}, {3839, 1, 3}, {512, 2048, 33}, {2560, 1280, 22}} {
		for room := range x.need {
			v := withFile(t, full(4+room))
			makes(t, v, api.KindFile, 6)
			writes(t, v, 1, 0, pattern(1, 256), api.OK)
			begins(t, v)
			was := pictured(v)
			writes(t, v, 0, x.at, pattern(2, x.n), api.ErrFull)
			uses(t, v, to(4+room)...)
			sameContents(t, pictured(v), was)
			has(t, v, 0, nil)
			has(t, v, 1, pattern(1, 256))
			v.Abort()
			samePicture(t, pictured(v), was)
		}
		v := withFile(t, full(x.need))
		writes(t, v, 0, x.at, pattern(2, x.n), api.OK)
		uses(t, v, to(x.need)...)
	}
}

// What the file had is as it was, though the Write would have begun within it.
func TestWriteWithoutRoomOverBytes(t *testing.T) {
	for _, length := range []int{1, 64, 100, 500, 512, 600} {
		v := withFile(t, full(12))
		want := pattern(1, length)
		writes(t, v, 0, 0, want, api.OK)
		blocks, _ := file.Blocks(v, 0)
		begins(t, v)
		was := pictured(v)
		for _, at := range []int{0, 10, length, 1000} {
			writes(t, v, 0, at, pattern(2, 2000), api.ErrFull)
			uses(t, v, to(12)...)
			sameContents(t, pictured(v), was)
			has(t, v, 0, want)
			consists(t, v, 0, blocks...)
			v.Abort()
			samePicture(t, pictured(v), was)
		}
		// What needs no block is written nevertheless.
		writes(t, v, 0, 0, pattern(3, length), api.OK)
		has(t, v, 0, pattern(3, length))
	}
}

// A group of another label has blocks, but not for this one.
func TestWriteWithoutAGroup(t *testing.T) {
	v, _ := mounted(t, api.Geo{Journal: 200, Inodes: 4, Groups: 2, PerGroup: 8})
	makes(t, v, api.KindFile, 1)
	makes(t, v, api.KindFile, 2)
	writes(t, v, 1, 0, []byte{5}, api.OK)
	begins(t, v)
	was := pictured(v)
	writes(t, v, 0, 0, pattern(1, 513), api.ErrFull)
	v.Abort()
	samePicture(t, pictured(v), was)
	writes(t, v, 0, 0, pattern(1, 512), api.OK)
	begins(t, v)
	writes(t, v, 0, 512, []byte{1}, api.ErrFull)
	v.Abort()
	writes(t, v, 1, 100, pattern(1, 400), api.OK)
	has(t, v, 0, pattern(1, 512))
}

// An Abort undoes what was done since Begin, whatever it was.
func TestAbort(t *testing.T) {
	v := withFile(t, roomy)
	writes(t, v, 0, 0, pattern(1, 3000), api.OK)
	for _, change := range []func(){
		func() { writes(t, v, 0, 100, pattern(2, 1000), api.OK) },
		func() { writes(t, v, 0, 3500, pattern(2, 300), api.OK) },
		func() { cuts(t, v, 0, 2561, api.OK) },
		func() { cuts(t, v, 0, 1, api.OK) },
		func() { file.Drop(v, 0) },
	} {
		begins(t, v)
		was := pictured(v)
		change()
		v.Abort()
		samePicture(t, pictured(v), was)
		has(t, v, 0, pattern(1, 3000))
	}
}

// Without power, what lies on the disk alone can't be read; a call that needs it changes nothing.

// stored returns a volume and its disk, which alone has the bytes of inode 0; inode 1 is empty.
func stored(t *testing.T) (*volume.Volume, *disk.Disk) {
	t.Helper()
	v, d := mounted(t, roomy)
	makes(t, v, api.KindFile, 6)
	makes(t, v, api.KindFile, 6)
	writes(t, v, 0, 70, pattern(1, 3000), api.OK)
	syncs(t, v)
	return v, d
}

func TestReadWithoutPower(t *testing.T) {
	v, d := stored(t)
	off(t, d)
	for _, at := range []int{64, 70, 127, 500, 512, 2600, 3069} {
		reads(t, v, 0, at, 1, nil, api.ErrDead)
	}
	reads(t, v, 0, 0, most, nil, api.ErrDead)
	reads(t, v, 0, 0, 65, nil, api.ErrDead)
	// Nothing of this needs the disk.
	reads(t, v, 0, 0, 64, make([]byte, 64), api.OK)
	reads(t, v, 0, 0, 0, nil, api.OK)
	for _, at := range append([]int{70, 100, 2600}, edges...) {
		reads(t, v, 0, at, 0, nil, api.OK)
	}
	reads(t, v, 0, 3070, math.MaxInt, nil, api.OK)
	reads(t, v, 1, 0, 9, nil, api.OK)
	if l, e := file.Blocks(v, 0); len(l) > 0 || e != api.ErrDead {
		t.Errorf("Blocks: got %v, error %d", l, e)
	}
	consists(t, v, 1)
	d.Crash(0)
	reads(t, v, 0, 70, most, pattern(1, 3000), api.OK)
}

func TestChangesWithoutPower(t *testing.T) {
	v, d := stored(t)
	was := pictured(v)
	for _, change := range []func() api.Errno{
		func() api.Errno { return file.Write(v, 0, 100, []byte{1}) },
		func() api.Errno { return file.Write(v, 0, 0, pattern(2, 100)) },
		func() api.Errno { return file.Write(v, 0, 0, pattern(2, 600)) },
		func() api.Errno { return file.Write(v, 0, 600, []byte{1}) },
		func() api.Errno { return file.Write(v, 0, 3070, []byte{1}) },
		func() api.Errno { return file.Write(v, 0, 3072, []byte{1}) },
		func() api.Errno { return file.Write(v, 0, 3500, []byte{1}) },
		func() api.Errno { return file.Cut(v, 0, 3000) },
		func() api.Errno { return file.Cut(v, 0, 600) },
		func() api.Errno { return file.Cut(v, 0, 100) },
		func() api.Errno { return file.Cut(v, 0, 0) },
		func() api.Errno { return file.Drop(v, 0) },
	} {
		off(t, d)
		if e := change(); e != api.ErrDead {
			t.Errorf("error %d, want %d", e, api.ErrDead)
		}
		d.Crash(0)
		samePicture(t, pictured(v), was)
	}
	// New blocks are not read, nor is anything else of a file without blocks.
	off(t, d)
	writes(t, v, 1, 500, pattern(3, 2500), api.OK)
	has(t, v, 1, slices.Concat(make([]byte, 500), pattern(3, 2500)))
	cuts(t, v, 1, 2561, api.OK)
	if e := file.Drop(v, 1); e != api.OK {
		t.Errorf("Drop: error %d", e)
	}
}

// The last block of a small file must be read, or else bytes of it could be seen later.
func TestCutOfASmallFileWithoutPower(t *testing.T) {
	v, d := mounted(t, roomy)
	makes(t, v, api.KindFile, 6)
	writes(t, v, 0, 0, pattern(1, 100), api.OK)
	syncs(t, v)
	was := pictured(v)
	for _, n := range []int{1, 63, 65, 99} {
		off(t, d)
		cuts(t, v, 0, n, api.ErrDead)
		d.Crash(0)
		samePicture(t, pictured(v), was)
	}
	// A whole block that is removed need not be read.
	off(t, d)
	cuts(t, v, 0, 64, api.OK)
	d.Crash(0)
	has(t, v, 0, pattern(1, 64))
}
