package dir_test

import (
	"math"
	"slices"
	"strings"
	"testing"

	"moat/api"
	"moat/dir"
	"moat/file"
	"moat/volume"
)

// wrongNames are not valid; the lengths of some of them are right if they are cut to eight bits.
var wrongNames = []string{
	"", ".", "..", "/", "a/", "/a", "a/b", "\x00", "a\x00", "\x00a", "a\x00b",
	strings.Repeat("x", 14), strings.Repeat("x", 15), strings.Repeat("x", 256), strings.Repeat("x", 257), strings.Repeat("x", 269), strings.Repeat("x", 1<<16+1),
}

// oddNames are valid, though they do not look so.
var oddNames = []string{"...", ".a", "a.", "..a", " ", "\xff", "\x01", "\\", "\n", "é", "\xff\xfe\xfd", strings.Repeat("\xff", 13), strings.Repeat(".", 13), "ab", "AB"}

// wrongInodes are numbers that an entry does not have.
var wrongInodes = append([]int{64, 65, 255, 256, 257, 320}, extremes...)

// The example of the chapter.
func TestExample(t *testing.T) {
	v := withDir(t, roomy)
	adds(t, v, 0, "a", 3, api.OK)
	adds(t, v, 0, "b", 4, api.OK)
	replaces(t, v, 0, "a", 5, 3, api.OK)
	finds(t, v, 0, "a", 5, api.OK)
	removes(t, v, 0, "b", api.OK)
	if n, _, _ := v.Inode(0); n.Size != 16 {
		t.Errorf("Size: got %d", n.Size)
	}
}

// P17.1: List and Find

func TestListAndFind(t *testing.T) {
	for _, l := range []table{
		nil,
		named("a"),
		named("a", "b", "c"),
		named("c", "b", "a"),
		named("", "a"),
		named("a", "", "", "b"),
		named("a", "", ""),
		named("", "", ""),
		named("a", "b", "c", "d", "", "", "", "", "e"),
		named(oddNames...),
		named(names(direct)...),
		named(names(direct + 1)...),
		named(names(double + 1)...),
		named(names(most)...),
	} {
		v := withBytes(t, roomy, l.bytes())
		holds(t, v, 0, l)
		leaves(t, v, func() {
			for _, x := range l.entries() {
				finds(t, v, 0, x.Name, x.Inode, api.OK)
			}
			for _, s := range slices.Concat(wrongNames, []string{"nowhere", "A", "aa", "n", "n1-", "n0"}) {
				finds(t, v, 0, s, 0, api.ErrNone)
			}
			lists(t, v, 0, l.entries(), api.OK)
		})
	}
}

// Each name and each number that an entry may have.
func TestFindOfEachInode(t *testing.T) {
	v := withDir(t, roomy)
	for k := range 64 {
		adds(t, v, 0, name(k), k, api.OK)
	}
	for k := range 64 {
		finds(t, v, 0, name(k), k, api.OK)
		finds(t, v, 0, name(k)+"x", 0, api.ErrNone)
		finds(t, v, 0, name(k)[1:], 0, api.ErrNone)
	}
}

// A directory without a name may have bytes nevertheless, and blocks or none.
func TestFreeEntriesOnly(t *testing.T) {
	for _, n := range []int{1, 3, 4, 5, direct, direct + 1, most} {
		v := withDir(t, roomy)
		cuts(t, v, 0, n*per)
		holds(t, v, 0, make(table, n))
		finds(t, v, 0, "", 0, api.ErrNone)
		consists(t, v, 0)
		removes(t, v, 0, "", api.ErrNone)
		adds(t, v, 0, "a", 1, api.OK)
		l := make(table, n)
		l[0] = api.Entry{Name: "a", Inode: 1}
		holds(t, v, 0, l)
		consists(t, v, 0, 0)
		// Nothing that is free remains at the end.
		removes(t, v, 0, "a", api.OK)
		holds(t, v, 0, nil)
		consists(t, v, 0)
	}
}

// Names whose hash values have the same Bits are told from each other.
func TestNamesWithTheSameBits(t *testing.T) {
	var l table
	for k := 0; len(l) < 40; k++ {
		if s := name(k); bitsOf(s) == bitsOf("a") {
			l = append(l, api.Entry{Name: s, Inode: len(l)})
		}
	}
	v := withBytes(t, roomy, l.bytes())
	holds(t, v, 0, l)
	finds(t, v, 0, "a", 0, api.ErrNone)
	removes(t, v, 0, "a", api.ErrNone)
	replaces(t, v, 0, "a", 1, 0, api.ErrNone)
	replaces(t, v, 0, l[30].Name, 7, 30, api.OK)
	l[30].Inode = 7
	removes(t, v, 0, l[20].Name, api.OK)
	l[20] = api.Entry{}
	holds(t, v, 0, l)
	adds(t, v, 0, "a", 3, api.OK)
	l[20] = api.Entry{Name: "a", Inode: 3}
	holds(t, v, 0, l)
}

// Each entry of List is new memory.
func TestListIsTheCallers(t *testing.T) {
	v := withBytes(t, roomy, named("a", "b", "c").bytes())
	l, _ := dir.List(v, 0)
	other, _ := dir.List(v, 0)
	l[0], l[1], l[2] = api.Entry{Name: "x", Inode: 9}, api.Entry{}, api.Entry{}
	_ = append(l[:0], l[:cap(l)]...)
	clear(l[:cap(l)])
	if !slices.Equal(other, named("a", "b", "c")) {
		t.Errorf("another result: got %v", other)
	}
	holds(t, v, 0, named("a", "b", "c"))
	// Nor does a later change reach it.
	removes(t, v, 0, "a", api.OK)
	replaces(t, v, 0, "b", 63, 2, api.OK)
	if !slices.Equal(other, named("a", "b", "c")) {
		t.Errorf("an earlier result: got %v", other)
	}
}

// The errors of all calls, which come ahead of each other one

// refuses makes sure of that error of all functions, whatever else they are given.
func refuses(t *testing.T, v *volume.Volume, i int, want api.Errno) {
	t.Helper()
	lists(t, v, i, nil, want)
	for _, s := range slices.Concat(wrongNames, []string{"a", "b", "nowhere"}) {
		finds(t, v, i, s, 0, want)
		removes(t, v, i, s, want)
		for _, n := range []int{0, 1, 63, 64, -1, math.MaxInt, math.MinInt} {
			adds(t, v, i, s, n, want)
			replaces(t, v, i, s, n, 0, want)
		}
	}
}

func TestInodesThatAreNotThere(t *testing.T) {
	v, _ := mounted(t, roomy)
	for range 3 {
		i := makes(t, v, api.KindDir, 5)
		adds(t, v, i, "a", 1, api.OK)
	}
	file.Drop(v, 1)
	leaves(t, v, func() {
		for _, i := range append([]int{-1, 8, 9, 64, 256}, extremes...) {
			refuses(t, v, i, api.ErrArg)
		}
		for _, i := range []int{1, 3, 4, 5, 6, 7} {
			refuses(t, v, i, api.ErrNone)
		}
	})
	holds(t, v, 0, named("a"))
	holds(t, v, 2, named("a"))
}

func TestNoVolume(t *testing.T) {
	for _, i := range append([]int{0, 1, 64}, extremes...) {
		refuses(t, nil, i, api.ErrNone)
		refuses(t, &volume.Volume{}, i, api.ErrArg)
	}
}

// A file is no directory, whether its bytes are those of one or not.
func TestFiles(t *testing.T) {
	for _, b := range [][]byte{nil, named("a", "b").bytes(), {1, 2, 3}, make([]byte, 64)} {
		v, _ := mounted(t, roomy)
		makes(t, v, api.KindFile, 5)
		writes(t, v, 0, 0, b)
		leaves(t, v, func() { refuses(t, v, 0, api.ErrDir) })
	}
}

// wrongBytes are not those of a directory.
func wrongBytes() [][]byte {
	a := named("a", "b", "c", "d", "e", "f").bytes()
	var l [][]byte
	for _, n := range []int{1, 3, 15, 17, 31, 63, 65, 80 + 1, 95} {
		l = append(l, slices.Clone(a[:n]), make([]byte, n))
	}
	// One byte of an entry is another one: its length, its Bits, its inode, its name, its padding.
	for _, at := range []int{0, 1, 2, 3, 4, 15} {
		for _, k := range []int{0, 16, 48, 64, 80} {
			b := slices.Clone(a)
			b[k+at] |= 64
			b[k+at]++
			l = append(l, b)
		}
	}
	for _, names := range [][]string{{"a", "a"}, {"a", "b", "c", "d", "e", "a"}, {"b", "", "b"}, {"."}, {".."}, {"a/b"}, {"a\x00"}, {"aaaaaaaaaaaaaa"}} {
		l = append(l, named(names...).bytes())
	}
	far := named(names(double + 5)...)
	far[double+4].Name = name(0)
	l = append(l, far.bytes())
	return append(l, table{{Name: "a", Inode: 64}}.bytes(), []byte(strings.Repeat("\xff", 64)), make([]byte, 3839))
}

func TestBytesThatAreNotADirectory(t *testing.T) {
	for k, b := range wrongBytes() {
		v := withBytes(t, roomy, b)
		other := makes(t, v, api.KindDir, 6)
		adds(t, v, other, "a", 1, api.OK)
		leaves(t, v, func() { refuses(t, v, 0, api.ErrEntry) })
		if t.Failed() {
			t.Fatalf("bytes %d: %v", k, b)
		}
		has(t, v, 0, b)
		holds(t, v, other, named("a"))
	}
}

// Without power, what lies on the disk alone can't be read; this comes behind the errors of the inode.
func TestWithoutPower(t *testing.T) {
	for _, at := range []int{1, direct + 1, double + 1, most} {
		v, d := mounted(t, whole)
		makes(t, v, api.KindDir, 5)
		makes(t, v, api.KindDir, 5)
		makes(t, v, api.KindFile, 5)
		makes(t, v, api.KindDir, 5)
		l := named(names(at)...)
		writes(t, v, 0, 0, l.bytes())
		writes(t, v, 3, 0, []byte{1})
		syncs(t, v)
		leaves(t, v, func() {
			off(t, d)
			refuses(t, v, 0, api.ErrDead)
			refuses(t, v, 2, api.ErrDir)
			refuses(t, v, 3, api.ErrDead)
			refuses(t, v, 4, api.ErrNone)
			refuses(t, v, 6, api.ErrArg)
			d.Crash(0)
		})
		holds(t, v, 0, l)
		// What is in memory needs no disk.
		off(t, d)
		holds(t, v, 1, nil)
		adds(t, v, 1, "a", 1, api.OK)
		adds(t, v, 1, "b", 2, api.OK)
		replaces(t, v, 1, "b", 5, 2, api.OK)
		removes(t, v, 1, "a", api.OK)
		holds(t, v, 1, table{{}, {Name: "b", Inode: 5}})
		removes(t, v, 1, "b", api.OK)
		holds(t, v, 1, nil)
	}
}
