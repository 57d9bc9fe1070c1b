package file_test

import (
	"bytes"
	"math"
	"slices"
	"testing"

	"moat/api"
	"moat/file"
	"moat/volume"
)

// The example of the chapter.
func TestExample(t *testing.T) {
	v := withFile(t, roomy)
	writes(t, v, 0, 100, []byte("ab"), api.OK)
	if n, _, _ := v.Inode(0); n.Size != 102 {
		t.Errorf("Size: got %d", n.Size)
	}
	reads(t, v, 0, 98, 9, []byte{0, 0, 'a', 'b'}, api.OK)
	consists(t, v, 0, 0)
	cuts(t, v, 0, 101, api.OK)
	cuts(t, v, 0, 102, api.OK)
	reads(t, v, 0, 98, 9, []byte{0, 0, 'a', 0}, api.OK)
	consists(t, v, 0, 0)
}

// P16.1: Read

func TestReadOfEachRange(t *testing.T) {
	v := withFile(t, roomy)
	want := slices.Concat(pattern(1, 70), make([]byte, 130), pattern(2, 50))
	writes(t, v, 0, 0, want[:70], api.OK)
	writes(t, v, 0, 200, want[200:], api.OK)
	for at := range 260 {
		rest := want[min(at, len(want)):]
		for n := range 260 {
			reads(t, v, 0, at, n, rest[:min(n, len(rest))], api.OK)
		}
	}
}

func TestReadAtTheEdges(t *testing.T) {
	v := withFile(t, roomy)
	want := pattern(3, most)
	writes(t, v, 0, 0, want, api.OK)
	ats := append([]int{3841, 4096, 1 << 16}, edges...)
	for _, length := range []int{0, 63, 513, 2560, 3839, most} {
		cuts(t, v, 0, most, api.OK)
		writes(t, v, 0, 0, want, api.OK)
		cuts(t, v, 0, length, api.OK)
		for _, at := range ats {
			rest := want[min(at, length):length]
			for _, n := range ats {
				reads(t, v, 0, at, n, rest[:min(n, len(rest))], api.OK)
			}
		}
	}
}

func TestReadOfWrongNumbers(t *testing.T) {
	v := withFile(t, roomy)
	want := pattern(1, 200)
	writes(t, v, 0, 0, want, api.OK)
	for _, k := range extremes {
		if k < 0 {
			for _, n := range append([]int{0, 1, 100, 201}, extremes...) {
				reads(t, v, 0, k, n, nil, api.ErrArg)
				reads(t, v, 0, n, k, nil, api.ErrArg)
			}
			continue
		}
		reads(t, v, 0, 0, k, want, api.OK)
		reads(t, v, 0, 199, k, want[199:], api.OK)
		reads(t, v, 0, 200, k, nil, api.OK)
		reads(t, v, 0, k, 0, nil, api.OK)
		reads(t, v, 0, k, k, nil, api.OK)
		reads(t, v, 0, k, math.MaxInt, nil, api.OK)
	}
}

func TestReadOfAnEmptyFile(t *testing.T) {
	v := withFile(t, roomy)
	for _, at := range edges {
		reads(t, v, 0, at, 0, nil, api.OK)
		reads(t, v, 0, at, 9, nil, api.OK)
	}
}

// What an inode has no blocks for is bytes 0, with a block of pointers on the way to it and without.
func TestReadOfMissingBlocks(t *testing.T) {
	v := withFile(t, roomy)
	cuts(t, v, 0, most, api.OK)
	want := make([]byte, most)
	has(t, v, 0, want)
	for _, at := range []int{3000, 700, 100} {
		writes(t, v, 0, at, []byte("xyz"), api.OK)
		copy(want[at:], "xyz")
		has(t, v, 0, want)
	}
}

func TestReadChangesNothing(t *testing.T) {
	v := withFile(t, roomy)
	writes(t, v, 0, 500, pattern(1, 2500), api.OK)
	writes(t, v, 0, 3500, pattern(1, 1), api.OK)
	syncs(t, v)
	want := pictured(v)
	for _, at := range edges {
		file.Read(v, 0, at, 700)
	}
	file.Blocks(v, 0)
	samePicture(t, pictured(v), want)
}

// P16.1: Write

func TestWriteAtTheEdges(t *testing.T) {
	base := pattern(1, most)
	for _, length := range []int{0, 1, 64, 500, 513, 2570, most} {
		for _, at := range edges {
			for _, n := range []int{1, 2, 63, 64, 65, 128, 600, 2561, most} {
				if at+n > most {
					continue
				}
				v := withFile(t, roomy)
				writes(t, v, 0, 0, base[:length], api.OK)
				b := pattern(2, n)
				writes(t, v, 0, at, b, api.OK)
				want := make([]byte, max(length, at+n))
				copy(want, base[:length])
				copy(want[at:], b)
				has(t, v, 0, want)
			}
		}
	}
}

// Nothing is changed by no bytes, and a file does not become longer by them.
func TestWriteOfNoBytes(t *testing.T) {
	v := withFile(t, roomy)
	writes(t, v, 0, 0, pattern(1, 100), api.OK)
	want := pictured(v)
	for _, b := range [][]byte{nil, {}, make([]byte, 0, 9)} {
		for _, at := range edges {
			writes(t, v, 0, at, b, api.OK)
		}
		for _, at := range append([]int{3841, 3842, 4096}, extremes...) {
			e := api.ErrLong
			if at < 0 {
				e = api.ErrArg
			}
			writes(t, v, 0, at, b, e)
		}
	}
	samePicture(t, pictured(v), want)
}

func TestWriteOfTooMuch(t *testing.T) {
	v := withFile(t, roomy)
	writes(t, v, 0, 0, pattern(1, 100), api.OK)
	want := pictured(v)
	for _, at := range edges {
		writes(t, v, 0, at, pattern(2, most-at+1), api.ErrLong)
		writes(t, v, 0, at, pattern(2, most-at+64), api.ErrLong)
		writes(t, v, 0, at, make([]byte, 1<<17), api.ErrLong)
	}
	for _, at := range append([]int{3841, 4096}, extremes...) {
		e := api.ErrLong
		if at < 0 {
			e = api.ErrArg
		}
		for _, n := range []int{1, 64, most, most + 1, 1 << 17} {
			writes(t, v, 0, at, make([]byte, n), e)
		}
	}
	samePicture(t, pictured(v), want)
	for _, at := range edges {
		if at < most {
			writes(t, v, 0, at, pattern(3, most-at), api.OK)
		}
	}
}

// A file is as long as it was if it is written within.
func TestWriteWithin(t *testing.T) {
	v := withFile(t, roomy)
	want := pattern(1, most)
	writes(t, v, 0, 0, want, api.OK)
	blocks, _ := file.Blocks(v, 0)
	for c, at := range edges {
		for _, n := range []int{1, 64, 130} {
			n = min(n, most-at)
			b := pattern(c, n)
			writes(t, v, 0, at, b, api.OK)
			copy(want[at:], b)
			has(t, v, 0, want)
		}
	}
	consists(t, v, 0, blocks...)
}

// What lies between the old end and the new bytes is bytes 0, whatever was there ahead of a Cut.
func TestWriteBeyondTheEndBehindACut(t *testing.T) {
	for _, length := range []int{0, 1, 63, 64, 65, 500, 512, 530, 2560, 2570} {
		for _, at := range []int{0, 1, 5, 64, 70, 130, 600, 2000} {
			if length+at+3 > most {
				continue
			}
			v := withFile(t, roomy)
			old := pattern(1, most)
			writes(t, v, 0, 0, old, api.OK)
			cuts(t, v, 0, length, api.OK)
			writes(t, v, 0, length+at, []byte("end"), api.OK)
			has(t, v, 0, slices.Concat(old[:length], make([]byte, at), []byte("end")))
		}
	}
}

// Only Size and the pointers of an inode change.
func TestWriteKeepsTheInode(t *testing.T) {
	for _, kind := range []uint8{api.KindFile, api.KindDir} {
		v, _ := mounted(t, roomy)
		makes(t, v, kind, 7)
		i := makes(t, v, kind, 9)
		n, _, _ := v.Inode(i)
		n.Links = 65535
		v.Set(i, n)
		writes(t, v, i, 10, pattern(1, 3000), api.OK)
		cuts(t, v, i, 2900, api.OK)
		m, a, e := v.Inode(i)
		if m.Kind != kind || m.Row != n.Row || m.Links != 65535 || m.Size != 2900 || a != 9 || e != api.OK {
			t.Errorf("got %v, label %d, error %d", m, a, e)
		}
	}
}

// P16.1: Cut

func TestCutAtTheEdges(t *testing.T) {
	old := pattern(1, most)
	for _, length := range edges {
		for _, n := range edges {
			v := withFile(t, roomy)
			writes(t, v, 0, 0, old[:length], api.OK)
			cuts(t, v, 0, n, api.OK)
			want := make([]byte, n)
			copy(want, old[:length])
			has(t, v, 0, want)
			cuts(t, v, 0, most, api.OK)
			clear(want[min(n, length):])
			has(t, v, 0, append(want, make([]byte, most-n)...))
		}
	}
}

func TestCutToWrongSizes(t *testing.T) {
	v := withFile(t, roomy)
	writes(t, v, 0, 0, pattern(1, 100), api.OK)
	want := pictured(v)
	for _, n := range append([]int{-1, most + 1, most + 64, 4096}, extremes...) {
		cuts(t, v, 0, n, api.ErrArg)
	}
	samePicture(t, pictured(v), want)
}

// Bytes that are added need no blocks, and nothing that is written.
func TestCutToMore(t *testing.T) {
	for _, length := range []int{0, 1, 64, 100, 512, 513} {
		v := withFile(t, roomy)
		writes(t, v, 0, 0, pattern(1, length), api.OK)
		blocks, _ := file.Blocks(v, 0)
		syncs(t, v)
		for _, n := range edges {
			if n >= length {
				cuts(t, v, 0, n, api.OK)
				cuts(t, v, 0, length, api.OK)
				cuts(t, v, 0, length, api.OK)
			}
		}
		dirties(t, v, 0)
		consists(t, v, 0, blocks...)
		has(t, v, 0, pattern(1, length))
	}
}

// P16.1 to P16.3: inodes that are not there

// refuses makes sure of the error of all functions, which comes ahead of each other one.
func refuses(t *testing.T, v *volume.Volume, i int, want api.Errno) {
	t.Helper()
	for _, at := range append([]int{0, 1, most, most + 1}, extremes...) {
		for _, n := range []int{0, 1, -1, math.MaxInt, math.MinInt} {
			reads(t, v, i, at, n, nil, want)
		}
		for _, b := range [][]byte{nil, {}, {1}, make([]byte, most+1)} {
			writes(t, v, i, at, b, want)
		}
		cuts(t, v, i, at, want)
	}
	if e := file.Drop(v, i); e != want {
		t.Fatalf("Drop of %d: error %d, want %d", i, e, want)
	}
	if l, e := file.Blocks(v, i); len(l) != 0 || e != want {
		t.Fatalf("Blocks of %d: got %v, error %d, want %d", i, l, e, want)
	}
}

func TestInodesThatAreNotThere(t *testing.T) {
	v, _ := mounted(t, roomy)
	for range 3 {
		makes(t, v, api.KindFile, 5)
	}
	writes(t, v, 0, 0, pattern(1, 700), api.OK)
	file.Drop(v, 1)
	want := pictured(v)
	for _, i := range append([]int{-1, 8, 9, 64, 256}, extremes...) {
		refuses(t, v, i, api.ErrArg)
	}
	for _, i := range []int{1, 3, 4, 5, 6, 7} {
		refuses(t, v, i, api.ErrNone)
	}
	samePicture(t, pictured(v), want)
}

func TestNoVolume(t *testing.T) {
	for _, i := range append([]int{0, 1}, extremes...) {
		refuses(t, nil, i, api.ErrNone)
		refuses(t, &volume.Volume{}, i, api.ErrArg)
	}
}

// P16.3: Drop

func TestDrop(t *testing.T) {
	for _, kind := range []uint8{api.KindFile, api.KindDir} {
		for _, n := range edges {
			v, _ := mounted(t, roomy)
			empty := pictured(v).meta
			makes(t, v, kind, 5)
			n = max(n, 1)
			writes(t, v, 0, n-1, []byte{7}, api.OK)
			writes(t, v, 0, 0, pattern(1, n/2), api.OK)
			if e := file.Drop(v, 0); e != api.OK {
				t.Fatalf("Drop: error %d", e)
			}
			uses(t, v)
			m := v.Meta()
			if !slices.Equal(m.Inodes, empty.Inodes) || !slices.Equal(m.Rows, empty.Rows) || !slices.Equal(m.Owners, empty.Owners) {
				t.Fatalf("Meta: got %v", m)
			}
			for block := range 70 {
				if b, e := v.Read(block); !bytes.Equal(b, make([]byte, size)) || e != api.OK {
					t.Fatalf("block %d: got %v, error %d", block, b, e)
				}
			}
			if e := file.Drop(v, 0); e != api.ErrNone {
				t.Fatalf("Drop once more: error %d", e)
			}
		}
	}
}

func TestDropOfAnEmptyFile(t *testing.T) {
	for _, n := range []int{0, 1, most} {
		v := withFile(t, roomy)
		cuts(t, v, 0, n, api.OK)
		if e := file.Drop(v, 0); e != api.OK {
			t.Fatalf("Drop: error %d", e)
		}
		refuses(t, v, 0, api.ErrNone)
		dirties(t, v, 0)
	}
}

// P16.4

func TestOtherInodesKeepTheirBytes(t *testing.T) {
	v, _ := mounted(t, roomy)
	want := make([][]byte, 6)
	for i := range want {
		makes(t, v, uint8(1+i%2), api.Label(i/2))
		want[i] = pattern(i, 300*i+5)
		writes(t, v, i, 0, want[i], api.OK)
	}
	all := func() {
		t.Helper()
		for i := range want {
			has(t, v, i, want[i])
		}
	}
	for c, at := range []int{0, 400, 2559, 3000} {
		for i := range want {
			b := pattern(10+c, 300)
			writes(t, v, i, at, b, api.OK)
			w := make([]byte, max(len(want[i]), at+300))
			copy(w, want[i])
			copy(w[at:], b)
			want[i] = w
			all()
		}
	}
	for _, n := range []int{3100, 2561, 600, 3, 0} {
		for i := range want {
			cuts(t, v, i, n, api.OK)
			want[i] = want[i][:n]
			all()
		}
	}
}

// What is written is there when the volume is mounted again.
func TestBytesStay(t *testing.T) {
	v, d := mounted(t, roomy)
	makes(t, v, api.KindFile, 3)
	want := pattern(1, most)
	writes(t, v, 0, 0, want, api.OK)
	syncs(t, v)
	v = mounts(t, d)
	has(t, v, 0, want)
	cuts(t, v, 0, 2561, api.OK)
	writes(t, v, 0, 100, pattern(2, 5), api.OK)
	copy(want[100:], pattern(2, 5))
	syncs(t, v)
	v = mounts(t, d)
	has(t, v, 0, want[:2561])
}

// What is given stays the caller's, and what is returned becomes his.

func TestArgumentsAreNotKept(t *testing.T) {
	v := withFile(t, roomy)
	memory := pattern(1, 400)
	b := memory[20:220]
	writes(t, v, 0, 600, b, api.OK)
	if !bytes.Equal(memory, pattern(1, 400)) {
		t.Fatal("Write changed what it was given, or what is beside it")
	}
	want := slices.Concat(make([]byte, 600), slices.Clone(b))
	clear(memory)
	has(t, v, 0, want)
	// Whole blocks.
	whole := pattern(2, 640)
	writes(t, v, 0, 0, whole, api.OK)
	clear(whole)
	has(t, v, 0, slices.Concat(pattern(2, 640), want[640:]))
}

func TestResultsAreTheCallers(t *testing.T) {
	v := withFile(t, roomy)
	want := pattern(1, most)
	writes(t, v, 0, 0, want, api.OK)
	blocks, _ := file.Blocks(v, 0)
	other, _ := file.Read(v, 0, 0, most)
	for _, at := range edges {
		for _, n := range []int{1, 64, 100, most} {
			b, _ := file.Read(v, 0, at, n)
			clear(b[:cap(b)])
			l, _ := file.Blocks(v, 0)
			clear(l[:cap(l)])
			has(t, v, 0, want)
			consists(t, v, 0, blocks...)
		}
	}
	if !bytes.Equal(other, want) {
		t.Error("a result changed another one")
	}
}
