package file_test

import (
	"math"
	"slices"
	"testing"

	"moat/api"
	"moat/file"
	"moat/volume"
)

// Inodes that were not written here, but by Set: whatever they say, a call returns, and one that returns an error has changed nothing.

// sets fails the test unless inode i becomes n, whose kind and row stay.
func sets(t *testing.T, v *volume.Volume, i int, n api.Inode) {
	t.Helper()
	was, _, _ := v.Inode(i)
	n.Kind, n.Row = was.Kind, was.Row
	if e := v.Set(i, n); e != api.OK {
		t.Fatalf("Set of %d to %v: error %d", i, n, e)
	}
}

// allocates gives a label blocks with these contents.
func allocates(t *testing.T, v *volume.Volume, a api.Label, contents ...[]byte) {
	t.Helper()
	for _, b := range contents {
		block, e := v.Alloc(a)
		if e != api.OK || v.Write(block, b) != api.OK {
			t.Fatalf("Alloc: got %d, error %d", block, e)
		}
	}
}

// leaves makes sure that a call ends with an error and changes nothing.
func leaves(t *testing.T, v *volume.Volume, want api.Errno, call func() api.Errno) {
	t.Helper()
	was := pictured(v)
	if e := call(); e != want {
		t.Fatalf("error %d, want %d", e, want)
	}
	samePicture(t, pictured(v), was)
}

// Bytes beyond the size are none of the file's: they are 0 when it becomes longer.
func TestBytesBeyondTheSize(t *testing.T) {
	for _, length := range []int{0, 1, 20, 64, 70, 127, 128, 500} {
		base := func() *volume.Volume {
			v := withFile(t, roomy)
			for k := range 6 {
				allocates(t, v, 6, pattern(k, 64))
			}
			allocates(t, v, 6, spelled([]int{5, 6}))
			sets(t, v, 0, api.Inode{Size: length, Direct: [8]int{1, 2, 3, 4}, Ind: 7})
			return v
		}
		old := slices.Concat(pattern(0, 64), pattern(1, 64), pattern(2, 64), pattern(3, 64), make([]byte, 256))[:length]
		for _, n := range []int{0, 1, 30, 64, 100, 200, 600, 3000} {
			v := base()
			has(t, v, 0, old)
			writes(t, v, 0, length+n, []byte("x"), api.OK)
			has(t, v, 0, slices.Concat(old, make([]byte, n), []byte("x")))
			v = base()
			cuts(t, v, 0, length+n, api.OK)
			has(t, v, 0, slices.Concat(old, make([]byte, n)))
			writes(t, v, 0, length+n, []byte("x"), api.OK)
			has(t, v, 0, slices.Concat(old, make([]byte, n), []byte("x")))
		}
		v := base()
		if e := file.Drop(v, 0); e != api.OK {
			t.Fatalf("Drop: error %d", e)
		}
		uses(t, v)
	}
}

// A call with a wrong argument does not touch them.
func TestBytesBeyondTheSizeOfWrongCalls(t *testing.T) {
	v := withFile(t, roomy)
	allocates(t, v, 6, pattern(1, 64), pattern(2, 64))
	sets(t, v, 0, api.Inode{Size: 10, Direct: [8]int{1, 2}})
	for _, n := range []int{most + 1, -1, math.MaxInt} {
		leaves(t, v, api.ErrArg, func() api.Errno { return file.Cut(v, 0, n) })
	}
	leaves(t, v, api.ErrLong, func() api.Errno { return file.Write(v, 0, most, []byte{1}) })
	leaves(t, v, api.ErrArg, func() api.Errno { return file.Write(v, 0, -1, []byte{1}) })
	leaves(t, v, api.OK, func() api.Errno { return file.Write(v, 0, most, nil) })
}

// A block of pointers without a pointer goes as well.
func TestCutFreesEmptyBlocksOfPointers(t *testing.T) {
	for _, n := range []api.Inode{{Ind: 1}, {Dind: 1}, {Dind: 2}, {Ind: 1, Dind: 2}, {Ind: 3, Dind: 2}, {Direct: [8]int{1}, Ind: 3, Dind: 2}} {
		v := withFile(t, roomy)
		allocates(t, v, 6, make([]byte, 64), spelled([]int{4}), make([]byte, 64), make([]byte, 64))
		n.Size = 5
		sets(t, v, 0, n)
		cuts(t, v, 0, 0, api.OK)
		consists(t, v, 0)
		if m, _, _ := v.Inode(0); m != (api.Inode{Kind: api.KindFile}) {
			t.Errorf("%v: got %v", n, m)
		}
	}
}

// What is beyond the last block of a volume, or in a block that holds no pointers, can't be followed.
func TestPointersToNoBlock(t *testing.T) {
	for _, n := range []api.Inode{{Direct: [8]int{9}}, {Direct: [8]int{512}}, {Direct: [8]int{1, 2}, Ind: 9}, {Ind: 3}, {Dind: 512}, {Dind: 3}, {Dind: 4}} {
		v := withFile(t, full(8))
		wrong := spelled([]int{1, 513})
		allocates(t, v, 6, pattern(1, 64), pattern(2, 64), wrong, spelled([]int{3}))
		n.Size = most
		sets(t, v, 0, n)
		at := 0
		if n.Ind > 0 {
			at = 512
		} else if n.Dind > 0 {
			at = 2560
		}
		leaves(t, v, api.ErrArg, func() api.Errno {
			b, e := file.Read(v, 0, at, 1)
			if len(b) > 0 {
				t.Errorf("Read: got %v", b)
			}
			return e
		})
		leaves(t, v, api.ErrArg, func() api.Errno { return file.Write(v, 0, at, []byte{1}) })
		// A block is missing ahead of the wrong pointer.
		leaves(t, v, api.ErrArg, func() api.Errno { return file.Write(v, 0, 0, pattern(1, at+1)) })
		if n.Direct[0] < 9 {
			leaves(t, v, api.ErrArg, func() api.Errno { return file.Cut(v, 0, 0) })
			leaves(t, v, api.ErrArg, func() api.Errno { return file.Drop(v, 0) })
			if l, e := file.Blocks(v, 0); len(l) > 0 || e != api.ErrArg {
				t.Errorf("Blocks: got %v, error %d", l, e)
			}
		}
	}
}

// The last block of a file that becomes longer is asked for, too.
func TestLastBlockThatIsNone(t *testing.T) {
	v := withFile(t, full(8))
	sets(t, v, 0, api.Inode{Size: 10, Direct: [8]int{100}})
	for _, at := range []int{11, 64, 100, 600, 3000} {
		leaves(t, v, api.ErrArg, func() api.Errno { return file.Write(v, 0, at, []byte{1}) })
		leaves(t, v, api.ErrArg, func() api.Errno { return file.Cut(v, 0, at) })
	}
}

// What is not in use can be read, but neither written nor freed; nothing else is then written or freed either.
func TestPointersToUnusedBlocks(t *testing.T) {
	for _, block := range []int{5, 7, 511} {
		v := withFile(t, full(8))
		allocates(t, v, 6, pattern(1, 64), pattern(2, 64), pattern(3, 64))
		sets(t, v, 0, api.Inode{Size: 256, Direct: [8]int{1, 2, block + 1, 3}})
		if block < 8 {
			reads(t, v, 0, 128, 64, make([]byte, 64), api.OK)
			leaves(t, v, api.ErrNone, func() api.Errno { return file.Write(v, 0, 130, []byte{1}) })
			leaves(t, v, api.ErrNone, func() api.Errno { return file.Write(v, 0, 0, pattern(5, 256)) })
		}
		leaves(t, v, api.ErrNone, func() api.Errno { return file.Cut(v, 0, 100) })
		leaves(t, v, api.ErrNone, func() api.Errno { return file.Drop(v, 0) })
		// This block is not asked for.
		writes(t, v, 0, 0, pattern(4, 128), api.OK)
		reads(t, v, 0, 0, 128, pattern(4, 128), api.OK)
	}
}

// anyPointers returns up to n pointers, most of them to blocks of a volume of 20.
func (x *dice) anyPointers(n int) []int {
	l := make([]int, n)
	for k := range l {
		switch x.under(4) {
		case 0:
			l[k] = x.under(21)
		case 1:
			l[k] = x.under(40) * x.under(14)
		}
	}
	return l
}

// anyInode returns something that an inode may be.
func (x *dice) anyInode() api.Inode {
	l := x.anyPointers(10)
	if x.under(3) == 0 {
		l[8+x.under(2)] = 1 + x.under(20)
	}
	return api.Inode{Links: x.under(3), Size: x.edge(), Direct: [8]int(l[:8]), Ind: l[8], Dind: l[9]}
}

// tangled returns a volume with any pointers in two inodes and in several of its blocks, the same ones among them.
func (x *dice) tangled(t *testing.T) *volume.Volume {
	t.Helper()
	v, d := mounted(t, full(20))
	makes(t, v, api.KindFile, 6)
	makes(t, v, api.KindDir, 6)
	for k := range 10 + x.under(10) {
		b := spelled(x.anyPointers(1 + x.under(32)))
		if x.under(4) == 0 {
			b = pattern(k, 64)
		}
		allocates(t, v, 6, b)
	}
	for range x.under(5) {
		v.Free(x.under(20))
	}
	sets(t, v, 0, x.anyInode())
	sets(t, v, 1, x.anyInode())
	syncs(t, v)
	if x.under(8) == 0 {
		off(t, d)
	}
	return v
}

// change does one of the things that change an inode; it reports whether blocks may have been allocated.
func (x *dice) change(v *volume.Volume) (bool, api.Errno) {
	switch at := x.edge(); x.under(5) {
	case 0, 1:
		return true, file.Write(v, x.under(2), at, pattern(at, min(x.edge(), most-at)))
	case 2, 3:
		return false, file.Cut(v, x.under(2), at)
	default:
		return false, file.Drop(v, x.under(2))
	}
}

func TestTangledInodes(t *testing.T) {
	for seed := range 6000 {
		x := dice(seed)
		v := x.tangled(t)
		for range 3 {
			was := pictured(v)
			for i := range 2 {
				file.Read(v, i, x.edge(), x.edge())
				file.Read(v, i, 0, math.MaxInt)
				file.Blocks(v, i)
			}
			samePicture(t, pictured(v), was)
			allocates, e := x.change(v)
			if now := pictured(v); e != api.OK && allocates {
				sameContents(t, now, was)
			} else if e != api.OK {
				samePicture(t, now, was)
			}
			if t.Failed() {
				t.Fatalf("seed %d", seed)
			}
		}
	}
}
