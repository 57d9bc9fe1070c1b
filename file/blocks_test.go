package file_test

import (
	"bytes"
	"slices"
	"testing"

	"moat/api"
	"moat/file"
)

// P16.2: what Write allocates

// The order of the blocks of a file is that in which they are allocated, and that of Blocks.
func TestWriteAllocatesInOrder(t *testing.T) {
	for _, x := range []struct{ n, blocks int }{{1, 1}, {64, 1}, {65, 2}, {512, 8}, {513, 10}, {576, 10}, {577, 11}, {2560, 41}, {2561, 44}, {2624, 44}, {2625, 45}, {3776, 62}, {3777, 63}, {most, 63}} {
		v := withFile(t, whole)
		writes(t, v, 0, 0, pattern(1, x.n), api.OK)
		consists(t, v, 0, to(x.blocks)...)
		uses(t, v, to(x.blocks)...)
		dirties(t, v, x.blocks)
	}
}

// The pointers of the greatest file, and of its blocks of pointers.
func TestWriteOfTheGreatestFile(t *testing.T) {
	v := withFile(t, whole)
	writes(t, v, 0, 0, pattern(1, most), api.OK)
	n, _, _ := v.Inode(0)
	want := api.Inode{Kind: api.KindFile, Size: most, Direct: [8]int{1, 2, 3, 4, 5, 6, 7, 8}, Ind: 9, Dind: 42}
	if n != want {
		t.Errorf("inode: got %v, want %v", n, want)
	}
	ind, inner := make([]int, 32), make([]int, 20)
	for k := range ind {
		ind[k] = 10 + k
	}
	for k := range inner {
		inner[k] = 44 + k
	}
	for block, l := range map[int][]int{8: ind, 41: {43}, 42: inner} {
		if b, _ := v.Read(block); !bytes.Equal(b, spelled(l)) {
			t.Errorf("block %d: got %v, want %v", block, b, spelled(l))
		}
	}
	for k, block := range slices.Concat(to(8), to(41)[9:], to(63)[43:]) {
		if b, _ := v.Read(block); !bytes.Equal(b, pattern(1, most)[64*k:][:64]) {
			t.Errorf("block %d: got %v", block, b)
		}
	}
}

// Only what is written gets a block, and only what lies on the way to it.
func TestWriteAllocatesWhatItNeeds(t *testing.T) {
	for _, x := range []struct {
		at, n int
		want  int
	}{
		{0, 1, 1}, {63, 1, 1}, {63, 2, 2}, {64, 1, 1}, {511, 1, 1}, {511, 2, 3}, {512, 1, 2}, {512, 64, 2}, {512, 65, 3}, {2559, 1, 2}, {2559, 2, 5}, {2560, 1, 3}, {2560, 65, 4}, {3839, 1, 3}, {448, 2113, 37}, {100, 500, 10},
	} {
		v := withFile(t, whole)
		writes(t, v, 0, x.at, pattern(1, x.n), api.OK)
		uses(t, v, to(x.want)...)
		dirties(t, v, x.want)
	}
}

// Blocks of bytes 0 are written ones, too.
func TestWriteOfBytes0(t *testing.T) {
	v := withFile(t, whole)
	writes(t, v, 0, 2500, make([]byte, 100), api.OK)
	uses(t, v, to(5)...)
	has(t, v, 0, make([]byte, 2600))
}

// Blocks are in the order of the file, whatever order they were allocated in.
func TestWriteInAnotherOrder(t *testing.T) {
	v := withFile(t, whole)
	writes(t, v, 0, 3776, pattern(1, 64), api.OK)
	consists(t, v, 0, 0, 1, 2)
	writes(t, v, 0, 600, pattern(1, 1), api.OK)
	consists(t, v, 0, 3, 4, 0, 1, 2)
	writes(t, v, 0, 2560, pattern(1, 1), api.OK)
	consists(t, v, 0, 3, 4, 0, 1, 5, 2)
	writes(t, v, 0, 70, pattern(1, 1), api.OK)
	consists(t, v, 0, 6, 3, 4, 0, 1, 5, 2)
	writes(t, v, 0, 500, pattern(1, 100), api.OK)
	consists(t, v, 0, 6, 7, 3, 8, 4, 0, 1, 5, 2)
	writes(t, v, 0, 0, pattern(1, 700), api.OK)
	consists(t, v, 0, 9, 6, 10, 11, 12, 13, 14, 7, 3, 8, 4, 15, 0, 1, 5, 2)
}

// A block that the inode has is written where it is, and the blocks of pointers on the way to it are not.
func TestWriteLeavesPointersAlone(t *testing.T) {
	for _, x := range []struct{ at, n, dirty int }{
		{0, 1, 1}, {512, 1, 1}, {512, 64, 1}, {511, 2, 2}, {2490, 60, 2}, {2500, 60, 1}, {2559, 2, 2}, {2560, 1, 1}, {3839, 1, 1}, {0, most, 60},
	} {
		v := withFile(t, whole)
		writes(t, v, 0, 0, pattern(1, most), api.OK)
		syncs(t, v)
		writes(t, v, 0, x.at, pattern(2, x.n), api.OK)
		dirties(t, v, x.dirty)
		consists(t, v, 0, to(63)...)
	}
}

// A block of pointers is written when a pointer in it changes, and the one that points to it only if it is new.
func TestWriteOfNewPointers(t *testing.T) {
	for _, x := range []struct{ first, at, dirty int }{
		{512, 600, 2}, {512, 700, 2}, {2560, 2700, 2}, {2560, 3839, 2}, {512, 2700, 3}, {2560, 600, 2}, {600, 100, 1}, {2560, 100, 1}, {512, 570, 1},
	} {
		v := withFile(t, whole)
		writes(t, v, 0, x.first, pattern(1, 1), api.OK)
		syncs(t, v)
		writes(t, v, 0, x.at, pattern(2, 1), api.OK)
		dirties(t, v, x.dirty)
	}
}

// Blocks are allocated with the label of their inode, in groups of this label.
func TestWriteAllocatesWithTheLabel(t *testing.T) {
	v, _ := mounted(t, api.Geo{Journal: 300, Inodes: 4, Groups: 8, PerGroup: 3})
	for _, a := range []api.Label{5, 0, 65535, 5} {
		makes(t, v, api.KindFile, a)
	}
	for i := range 4 {
		writes(t, v, i, 0, pattern(i, 70), api.OK)
	}
	consists(t, v, 0, 0, 1)
	consists(t, v, 1, 3, 4)
	consists(t, v, 2, 6, 7)
	consists(t, v, 3, 2, 9)
	writes(t, v, 1, 600, pattern(1, 1), api.OK)
	writes(t, v, 0, 2700, pattern(1, 1), api.OK)
	consists(t, v, 0, 0, 1, 10, 11, 15)
	consists(t, v, 1, 3, 4, 5, 12)
	if l := v.Meta().Owners; !slices.Equal(l, []int{1, 2, 3, 1, 2, 1, 0, 0}) {
		t.Errorf("Owners: got %v", l)
	}
	syncs(t, v)
	for i := range 4 {
		if n, _, _ := v.Inode(i); n.Size == 0 {
			t.Errorf("inode %d: got %v", i, n)
		}
	}
}

// P16.2: what Cut frees and clears

func TestCutFreesBlocks(t *testing.T) {
	for _, n := range edges {
		v := withFile(t, whole)
		writes(t, v, 0, 0, pattern(1, most), api.OK)
		cuts(t, v, 0, n, api.OK)
		blocks := (n + 63) / 64
		want := to(min(blocks, 8))
		if blocks > 8 {
			want = append(want, to(42)[8:min(blocks, 40)+1]...)
		}
		if blocks > 40 {
			want = append(want, to(blocks + 3)[41:]...)
		}
		consists(t, v, 0, want...)
		uses(t, v, want...)
		for block := range 63 {
			b, _ := v.Read(block)
			if !slices.Contains(want, block) && !bytes.Equal(b, make([]byte, size)) {
				t.Fatalf("Cut to %d: block %d is %v", n, block, b)
			}
		}
	}
}

// The pointers to what is freed are 0, in the inode and in blocks of pointers.
func TestCutClearsPointers(t *testing.T) {
	v := withFile(t, whole)
	writes(t, v, 0, 0, pattern(1, most), api.OK)
	cuts(t, v, 0, 2625, api.OK)
	for block, l := range map[int][]int{41: {43}, 42: {44, 45}} {
		if b, _ := v.Read(block); !bytes.Equal(b, spelled(l)) {
			t.Errorf("block %d: got %v, want %v", block, b, spelled(l))
		}
	}
	cuts(t, v, 0, 640, api.OK)
	if b, _ := v.Read(8); !bytes.Equal(b, spelled([]int{10, 11})) {
		t.Errorf("block 8: got %v", b)
	}
	if n, _, _ := v.Inode(0); n.Dind != 0 || n.Ind != 9 {
		t.Errorf("got %v", n)
	}
	cuts(t, v, 0, 129, api.OK)
	if n, _, _ := v.Inode(0); n != (api.Inode{Kind: api.KindFile, Size: 129, Direct: [8]int{1, 2, 3}}) {
		t.Errorf("got %v", n)
	}
	cuts(t, v, 0, 0, api.OK)
	if n, _, _ := v.Inode(0); n != (api.Inode{Kind: api.KindFile}) {
		t.Errorf("got %v", n)
	}
}

// A block of pointers goes with the last block to which it points, also if the file has blocks ahead of it, or none.
func TestCutFreesBlocksOfPointers(t *testing.T) {
	for _, x := range []struct {
		written []int
		size    int
		want    []int
	}{
		{[]int{600}, 577, []int{0, 1}}, {[]int{600}, 576, nil}, {[]int{600}, 512, nil},
		{[]int{600, 0}, 576, []int{2}}, {[]int{600, 0}, 64, []int{2}}, {[]int{600, 0}, 0, nil},
		{[]int{600, 700}, 640, []int{0, 1}}, {[]int{700, 600}, 640, []int{0, 2}},
		{[]int{3000}, 2945, []int{0, 1, 2}}, {[]int{3000}, 2944, nil}, {[]int{3000}, 100, nil},
		{[]int{3000, 600}, 2944, []int{3, 4}}, {[]int{3000, 2600}, 2944, []int{0, 1, 3}},
		{[]int{3000, 2600, 600, 5}, 2560, []int{6, 4, 5}}, {[]int{3000, 2600, 600, 5}, 2561, []int{6, 4, 5, 0, 1, 3}},
	} {
		v := withFile(t, whole)
		for _, at := range x.written {
			writes(t, v, 0, at, []byte{9}, api.OK)
		}
		cuts(t, v, 0, x.size, api.OK)
		consists(t, v, 0, x.want...)
		slices.Sort(x.want)
		uses(t, v, x.want...)
	}
}

// What is written is only what changes: the last block if bytes of it are removed, and the blocks of pointers that remain.
func TestCutWritesWhatChanges(t *testing.T) {
	for _, x := range []struct{ size, dirty int }{
		{most, 0}, {3839, 1}, {3777, 1}, {3776, 2}, {3775, 3}, {2561, 21}, {2560, 22}, {2559, 23}, {2496, 24}, {513, 55}, {512, 55}, {511, 56}, {64, 62}, {0, 63},
	} {
		v := withFile(t, whole)
		writes(t, v, 0, 0, pattern(1, most), api.OK)
		syncs(t, v)
		cuts(t, v, 0, x.size, api.OK)
		dirties(t, v, x.dirty)
		cuts(t, v, 0, x.size, api.OK)
		cuts(t, v, 0, most, api.OK)
		dirties(t, v, x.dirty)
	}
}

// The bytes beyond the size are 0 in the block itself, and those before it are not.
func TestCutClearsTheLastBlock(t *testing.T) {
	for _, start := range []int{0, 64, 512, 2496, 2560, 3776} {
		for n := range 65 {
			v := withFile(t, whole)
			writes(t, v, 0, start, pattern(1, 64), api.OK)
			block, _ := file.Blocks(v, 0)
			last := block[len(block)-1]
			cuts(t, v, 0, start+n, api.OK)
			if n == 0 {
				uses(t, v)
				continue
			}
			b, _ := v.Read(last)
			if !bytes.Equal(b, append(pattern(1, 64)[:n], make([]byte, 64-n)...)) {
				t.Fatalf("Cut to %d: got %v", start+n, b)
			}
		}
	}
}

// A block that is not there needs nothing to be cleared.
func TestCutWithinAMissingBlock(t *testing.T) {
	for _, n := range []int{10, 100, 600, 2600} {
		v := withFile(t, whole)
		writes(t, v, 0, 3000, pattern(1, 8), api.OK)
		syncs(t, v)
		cuts(t, v, 0, n, api.OK)
		uses(t, v)
		dirties(t, v, 3)
		has(t, v, 0, make([]byte, n))
	}
}

// The bytes of the block ahead of the last one stay.
func TestCutLeavesBlocksAhead(t *testing.T) {
	for _, n := range edges {
		v := withFile(t, whole)
		writes(t, v, 0, 0, pattern(1, most), api.OK)
		cuts(t, v, 0, n, api.OK)
		has(t, v, 0, pattern(1, most)[:n])
		writes(t, v, 0, 0, pattern(2, 1), api.OK)
		want := slices.Concat(pattern(2, 1), pattern(1, most)[min(1, n):n])
		has(t, v, 0, want[:max(n, 1)])
	}
}

// Freed blocks are allocated again, and nothing of what was in them is to be seen.
func TestBlocksAgain(t *testing.T) {
	v := withFile(t, full(70))
	other := makes(t, v, api.KindFile, 6)
	for c, n := range []int{0, 100, 600, 2700} {
		writes(t, v, 0, 0, pattern(c, most), api.OK)
		cuts(t, v, 0, n, api.OK)
		for at := 10; at < 3200-n; at += 300 {
			writes(t, v, other, at, []byte{1}, api.OK)
		}
		b, _ := file.Read(v, other, 0, most)
		for at, k := range b {
			if (at-10)%300 != 0 && k != 0 {
				t.Fatalf("byte %d: got %d", at, k)
			}
		}
		cuts(t, v, other, 0, api.OK)
	}
}
