package super_test

import (
	"bytes"
	"encoding/binary"
	"hash/adler32"
	"math"
	"math/big"
	"slices"
	"testing"

	"moat/api"
	"moat/super"
)

// example is the geometry of the chapter's example.
var example = api.Geo{Journal: 20, Inodes: 8, Groups: 2, PerGroup: 4}

// isValid holds a geometry against the chapter's words, by numbers that can't overflow.
func isValid(g api.Geo) bool {
	product := new(big.Int).Mul(big.NewInt(int64(g.Groups)), big.NewInt(int64(g.PerGroup)))
	switch {
	case g.Journal < 3, g.Journal > 1000:
		return false
	case g.Inodes < 2, g.Inodes > 64, g.Inodes&1 == 1:
		return false
	case g.Groups < 1, g.Groups > 64:
		return false
	case g.PerGroup < 1, product.Cmp(big.NewInt(512)) > 0:
		return false
	}
	return true
}

// sealed returns b followed by its checksum, which the library computes.
func sealed(b []byte) []byte {
	return binary.LittleEndian.AppendUint32(slices.Clone(b), adler32.Checksum(b))
}

// head spells the bytes that are sealed, with each number cut to two bytes.
func head(journal, inodes, groups, perGroup int) []byte {
	b := []byte{'m', 'o', 'a', 't'}
	for _, n := range []int{journal, inodes, groups, perGroup} {
		b = append(b, byte(n), byte(n>>8))
	}
	return append(b, make([]byte, 48)...)
}

func spelled(g api.Geo) []byte { return sealed(head(g.Journal, g.Inodes, g.Groups, g.PerGroup)) }

// roomy returns a copy of b behind whose end there are the bytes more.
func roomy(b []byte, more ...byte) []byte {
	return append(slices.Clone(b), more...)[:len(b)]
}

// with returns a copy of b whose byte at at is c.
func with(b []byte, at int, c byte) []byte {
	b = slices.Clone(b)
	b[at] = c
	return b
}

// parted are all valid numbers of groups, with all numbers of blocks in each.
func parted() []api.Geo {
	var l []api.Geo
	for groups := 1; groups <= 64; groups++ {
		for per := 1; per <= 512; per++ {
			if groups*per <= 512 {
				l = append(l, api.Geo{Groups: groups, PerGroup: per})
			}
		}
	}
	return l
}

// valid are valid geometries: each number of a field is there, and all that the edges of the fields make together.
func valid() []api.Geo {
	var l []api.Geo
	for _, g := range parted() {
		for _, g.Journal = range []int{3, 4, 255, 256, 999, 1000} {
			for _, g.Inodes = range []int{2, 4, 62, 64} {
				l = append(l, g)
			}
		}
	}
	for _, g := range []api.Geo{{Groups: 1, PerGroup: 1}, {Groups: 1, PerGroup: 512}, {Groups: 64, PerGroup: 8}, {Groups: 7, PerGroup: 73}} {
		for g.Journal = 3; g.Journal <= 1000; g.Journal++ {
			for g.Inodes = 2; g.Inodes <= 64; g.Inodes += 2 {
				l = append(l, g)
			}
		}
	}
	return l
}

// extremes are ints from the smallest to the greatest; some become valid if they are cut to fewer bits, or have their sign taken away.
var extremes = []int{
	math.MinInt, math.MinInt + 1, math.MinInt + 4, -1<<32 + 4, -1 << 32, -1<<31 - 1, -1 << 31, -1<<16 + 4, -1 << 16, -512, -64, -8, -4, -3, -2, -1,
	1<<16 + 4, 1<<16 + 8, 1<<31 - 1, 1 << 31, 1<<32 + 4, 1<<32 + 8, 1<<62 + 4, math.MaxInt - 1, math.MaxInt,
}

// edges are numbers for the fields: each bound of the chapter from both sides, and the extremes.
func edges() []int {
	return append([]int{0, 1, 2, 3, 4, 8, 63, 64, 65, 66, 257, 512, 513, 514, 1000, 1001, 1002}, extremes...)
}

// wrong are geometries that are not valid: of one wrong field, the others at their edges, and of products that are too great.
func wrong() []api.Geo {
	l := []api.Geo{{}}
	for _, g := range []api.Geo{example, {Journal: 3, Inodes: 2, Groups: 1, PerGroup: 1}, {Journal: 1000, Inodes: 64, Groups: 64, PerGroup: 8}} {
		for _, n := range edges() {
			a, b, c, d := g, g, g, g
			a.Journal, b.Inodes, c.Groups, d.PerGroup = n, n, n, n
			l = append(l, a, b, c, d)
		}
		for _, c := range []int{1, 2, 3, 7, 8, 16, 63, 64} {
			for _, n := range []int{512/c + 1, 512/c + 2, 513, 1024, 1<<16 + 1, math.MaxInt / c, math.MaxInt/c + 1, math.MaxInt} {
				h := g
				h.Groups, h.PerGroup = c, n
				l = append(l, h)
			}
		}
	}
	return slices.DeleteFunc(l, isValid)
}

// around are numbers of blocks about the last one of n.
func around(n int) []int {
	return append([]int{n, n + 1, n + 7, 2 * n, 512, 513, 1 << 16, 1<<16 + 1, 1 << 32, 1<<32 + 1}, extremes...)
}

func noPlan(t *testing.T, g api.Geo) {
	t.Helper()
	if l, e := super.Plan(g); l != (api.Layout{}) || e != api.ErrArg {
		t.Errorf("Plan of %v: got %v, error %d; want none, error %d", g, l, e, api.ErrArg)
	}
}

func noBytes(t *testing.T, g api.Geo) {
	t.Helper()
	if b, e := super.Lay(g); len(b) != 0 || e != api.ErrArg {
		t.Errorf("Lay of %v: got %v, error %d; want none, error %d", g, b, e, api.ErrArg)
	}
}

func isGroup(t *testing.T, g api.Geo, block, want int) {
	t.Helper()
	if n, is := super.Group(g, block); n != want || !is {
		t.Errorf("Group of %v and block %d: got %d, %v; want %d", g, block, n, is, want)
	}
}

func noGroup(t *testing.T, g api.Geo, block int) {
	t.Helper()
	if n, is := super.Group(g, block); n != 0 || is {
		t.Errorf("Group of %v and block %d: got %d, %v; want none", g, block, n, is)
	}
}

func isTaken(t *testing.T, b []byte, want api.Geo) {
	t.Helper()
	if g, e := super.Take(b); g != want || e != api.OK {
		t.Errorf("Take of %v: got %v, error %d; want %v", b, g, e, want)
	}
}

func isRefused(t *testing.T, b []byte) {
	t.Helper()
	if g, e := super.Take(b); g != (api.Geo{}) || e != api.ErrSuper {
		t.Errorf("Take of %v: got %v, error %d; want none, error %d", b, g, e, api.ErrSuper)
	}
}

// P9.1

func TestRightAtEachBound(t *testing.T) {
	for _, x := range []struct {
		n    int
		want bool
	}{{2, false}, {3, true}, {4, true}, {999, true}, {1000, true}, {1001, false}, {0, false}, {-3, false}} {
		if g := (api.Geo{Journal: x.n, Inodes: 8, Groups: 2, PerGroup: 4}); super.Right(g) != x.want {
			t.Errorf("%v: got %v", g, !x.want)
		}
	}
	for _, x := range []struct {
		n    int
		want bool
	}{{0, false}, {1, false}, {2, true}, {3, false}, {4, true}, {62, true}, {63, false}, {64, true}, {65, false}, {66, false}, {-2, false}} {
		if g := (api.Geo{Journal: 20, Inodes: x.n, Groups: 2, PerGroup: 4}); super.Right(g) != x.want {
			t.Errorf("%v: got %v", g, !x.want)
		}
	}
	for _, x := range []struct {
		n    int
		want bool
	}{{0, false}, {1, true}, {2, true}, {63, true}, {64, true}, {65, false}, {-1, false}} {
		if g := (api.Geo{Journal: 20, Inodes: 8, Groups: x.n, PerGroup: 4}); super.Right(g) != x.want {
			t.Errorf("%v: got %v", g, !x.want)
		}
	}
}

func TestRightAtTheBoundsOfBlocks(t *testing.T) {
	for _, x := range []struct {
		groups, per int
		want        bool
	}{
		{1, 0, false}, {1, 1, true}, {1, 2, true}, {1, 511, true}, {1, 512, true}, {1, 513, false}, {1, -1, false},
		{2, 0, false}, {2, 1, true}, {2, 256, true}, {2, 257, false}, {3, 170, true}, {3, 171, false}, {7, 73, true}, {7, 74, false},
		{63, 8, true}, {63, 9, false}, {64, 0, false}, {64, 1, true}, {64, 7, true}, {64, 8, true}, {64, 9, false}, {65, 1, false}, {65, 7, false},
		{0, 0, false}, {0, 1, false}, {0, 512, false}, {-1, -1, false}, {-2, -8, false}, {512, 1, false}, {513, 0, false},
		{1, math.MaxInt, false}, {1, math.MinInt, false}, {2, math.MaxInt, false}, {64, math.MaxInt, false}, {64, math.MinInt, false},
		// The products overflow: they would be less than 0, 0, 4, 8, 0, 64, and 512.
		{2, 1 << 62, false}, {4, 1 << 62, false}, {4, 1<<62 + 1, false}, {4, 1<<62 + 2, false}, {64, 1 << 58, false}, {64, 1<<58 + 1, false}, {64, 1<<62 + 8, false},
		{math.MaxInt, 1, false}, {math.MaxInt, math.MaxInt, false}, {math.MinInt, 1, false}, {math.MinInt, math.MinInt, false}, {math.MaxInt, math.MinInt, false},
	} {
		if g := (api.Geo{Journal: 20, Inodes: 8, Groups: x.groups, PerGroup: x.per}); super.Right(g) != x.want {
			t.Errorf("%v: got %v", g, !x.want)
		}
	}
}

func TestRightOfEachField(t *testing.T) {
	for n := -1100; n <= 1100; n++ {
		for _, g := range []api.Geo{{Journal: n, Inodes: 8, Groups: 2, PerGroup: 4}, {Journal: 20, Inodes: n, Groups: 2, PerGroup: 4}, {Journal: 20, Inodes: 8, Groups: n, PerGroup: 4}, {Journal: 20, Inodes: 8, Groups: 2, PerGroup: n}} {
			if super.Right(g) != isValid(g) {
				t.Errorf("%v: got %v", g, super.Right(g))
			}
		}
	}
}

func TestRightOfAllEdges(t *testing.T) {
	l := edges()
	for _, journal := range l {
		for _, inodes := range l {
			for _, groups := range l {
				for _, per := range l {
					g := api.Geo{Journal: journal, Inodes: inodes, Groups: groups, PerGroup: per}
					if super.Right(g) != isValid(g) {
						t.Fatalf("%v: got %v", g, super.Right(g))
					}
				}
			}
		}
	}
}

func TestRightOfGroupsAndBlocks(t *testing.T) {
	for groups := -1; groups <= 66; groups++ {
		for per := -2; per <= 520; per++ {
			g := api.Geo{Journal: 3, Inodes: 64, Groups: groups, PerGroup: per}
			if super.Right(g) != isValid(g) {
				t.Errorf("%v: got %v", g, super.Right(g))
			}
		}
	}
}

// P9.2

func TestKnownPlans(t *testing.T) {
	for _, x := range []struct {
		g    api.Geo
		want api.Layout
		meta int
	}{
		{example, api.Layout{Journal: 1, Labels: 21, Groups: 22, Bits: 23, Inodes: 24, Blocks: 28, All: 36}, 7},
		{api.Geo{Journal: 3, Inodes: 2, Groups: 1, PerGroup: 1}, api.Layout{Journal: 1, Labels: 4, Groups: 5, Bits: 6, Inodes: 7, Blocks: 8, All: 9}, 4},
		{api.Geo{Journal: 1000, Inodes: 64, Groups: 64, PerGroup: 8}, api.Layout{Journal: 1, Labels: 1001, Groups: 1002, Bits: 1003, Inodes: 1004, Blocks: 1036, All: 1548}, 35},
		{api.Geo{Journal: 100, Inodes: 6, Groups: 1, PerGroup: 512}, api.Layout{Journal: 1, Labels: 101, Groups: 102, Bits: 103, Inodes: 104, Blocks: 107, All: 619}, 6},
	} {
		if l, e := super.Plan(x.g); l != x.want || e != api.OK {
			t.Errorf("Plan of %v: got %v, error %d; want %v", x.g, l, e, x.want)
		}
		if n := super.Meta(x.g); n != x.meta {
			t.Errorf("Meta of %v: got %d, want %d", x.g, n, x.meta)
		}
	}
}

// Each part starts where the one before it ends.
func TestPlanLaysPartsBehindOneAnother(t *testing.T) {
	for _, g := range valid() {
		l, e := super.Plan(g)
		starts := []int{0, l.Journal, l.Labels, l.Groups, l.Bits, l.Inodes, l.Blocks, l.All}
		sizes := []int{1, g.Journal, 1, 1, 1, g.Inodes / 2, g.Groups * g.PerGroup}
		for i, n := range sizes {
			if e != api.OK || starts[i+1]-starts[i] != n {
				t.Fatalf("Plan of %v: got %v, error %d; part %d has %d sectors", g, l, e, i, n)
			}
		}
	}
}

func TestMetaOfEachGeometry(t *testing.T) {
	for _, g := range valid() {
		if n := super.Meta(g); n != 3+g.Inodes/2 {
			t.Fatalf("Meta of %v: got %d", g, n)
		}
	}
}

func TestGroupAtTheEdges(t *testing.T) {
	isGroup(t, example, 0, 0)
	isGroup(t, example, 3, 0)
	isGroup(t, example, 4, 1)
	isGroup(t, example, 7, 1)
	noGroup(t, example, 8)
	noGroup(t, example, -1)
	// Rounded towards 0, these would be in group 0.
	noGroup(t, example, -2)
	noGroup(t, example, -3)
	all := api.Geo{Journal: 3, Inodes: 2, Groups: 64, PerGroup: 8}
	isGroup(t, all, 0, 0)
	isGroup(t, all, 511, 63)
	noGroup(t, all, 512)
	one := api.Geo{Journal: 3, Inodes: 2, Groups: 1, PerGroup: 1}
	isGroup(t, one, 0, 0)
	noGroup(t, one, 1)
	noGroup(t, one, -1)
}

func TestGroupOfEachBlock(t *testing.T) {
	for _, g := range parted() {
		g.Journal, g.Inodes = 3, 2
		block := 0
		for group := range g.Groups {
			for range g.PerGroup {
				isGroup(t, g, block, group)
				block++
			}
		}
		for _, n := range around(block) {
			if n < 0 || n >= block {
				noGroup(t, g, n)
			}
		}
	}
}

func TestNothingFollowsOfWrongGeometries(t *testing.T) {
	for _, g := range wrong() {
		noPlan(t, g)
		noBytes(t, g)
		if n := super.Meta(g); n != 0 {
			t.Errorf("Meta of %v: got %d", g, n)
		}
		for _, block := range append([]int{0, 1, 2, 7, 511}, around(8)...) {
			noGroup(t, g, block)
		}
	}
}

// P9.3

func TestKnownSuperblock(t *testing.T) {
	g := api.Geo{Journal: 1000, Inodes: 64, Groups: 2, PerGroup: 256}
	want := append([]byte{109, 111, 97, 116, 232, 3, 64, 0, 2, 0, 0, 1}, make([]byte, 48)...)
	// The checksum by hand: 736 is 1 and the bytes, 42153 the sum of the sums.
	want = append(want, 736%256, 736/256, 42153%256, 42153/256)
	b, e := super.Lay(g)
	if e != api.OK || !bytes.Equal(b, want) {
		t.Errorf("got %v, error %d; want %v", b, e, want)
	}
	isTaken(t, want, g)
}

func TestLayOfEachGeometry(t *testing.T) {
	for _, g := range valid() {
		if b, e := super.Lay(g); e != api.OK || !bytes.Equal(b, spelled(g)) {
			t.Fatalf("Lay of %v: got %v, error %d", g, b, e)
		}
	}
}

func TestTakeOfSpelledSuperblocks(t *testing.T) {
	for _, g := range valid() {
		isTaken(t, spelled(g), g)
	}
}

// Each field has each number of two bytes once, and the seal is right: only the geometry tells.
func TestTakeAsksTheGeometry(t *testing.T) {
	for n := range 1 << 16 {
		for _, g := range []api.Geo{{Journal: n, Inodes: 8, Groups: 2, PerGroup: 4}, {Journal: 20, Inodes: n, Groups: 2, PerGroup: 4}, {Journal: 20, Inodes: 8, Groups: n, PerGroup: 4}, {Journal: 20, Inodes: 8, Groups: 2, PerGroup: n}} {
			if isValid(g) {
				isTaken(t, spelled(g), g)
			} else {
				isRefused(t, spelled(g))
			}
		}
	}
}

func TestTakeRefusesProductsBeyondTheLimit(t *testing.T) {
	for _, g := range wrong() {
		if l := []int{g.Journal, g.Inodes, g.Groups, g.PerGroup}; slices.Min(l) >= 0 && slices.Max(l) < 1<<16 {
			isRefused(t, spelled(g))
		}
	}
	isRefused(t, sealed(head(0, 0, 0, 0)))
	isRefused(t, sealed(head(math.MaxInt, math.MaxInt, math.MaxInt, math.MaxInt)))
}

func TestTakeRefusesAnyOtherByte(t *testing.T) {
	for _, g := range []api.Geo{example, {Journal: 1000, Inodes: 64, Groups: 64, PerGroup: 8}} {
		b := spelled(g)
		for i := range b {
			for c := range 256 {
				if byte(c) != b[i] {
					isRefused(t, with(b, i, byte(c)))
				}
			}
		}
	}
}

// A checksum that is right doesn't make up for another mark, or for bytes behind the fields.
func TestTakeRefusesOtherBytesSealedAnew(t *testing.T) {
	b := head(20, 8, 2, 4)
	isTaken(t, sealed(b), example)
	for i := range b {
		if 4 <= i && i < 12 {
			continue
		}
		for c := range 256 {
			if byte(c) != b[i] {
				isRefused(t, sealed(with(b, i, byte(c))))
			}
		}
	}
	for _, s := range []string{"MOAT", "Moat", "taom", "mota", "\x00\x00\x00\x00", "    ", "\xff\xff\xff\xff", "moa\x00", "\x00oat"} {
		isRefused(t, sealed(slices.Concat([]byte(s), b[4:])))
	}
}

func TestTakeRefusesWrongSeals(t *testing.T) {
	b := spelled(example)
	n := binary.LittleEndian.Uint32(b[60:])
	for _, wrong := range []uint32{0, 1, n + 1, n - 1, n ^ 1<<31, n<<16 | n>>16, ^n, math.MaxUint32, adler32.Checksum(b)} {
		isRefused(t, binary.LittleEndian.AppendUint32(slices.Clone(b[:60]), wrong))
	}
	isRefused(t, binary.BigEndian.AppendUint32(slices.Clone(b[:60]), n))
}

func TestTakeRefusesOtherLengths(t *testing.T) {
	isRefused(t, nil)
	isRefused(t, []byte{})
	isRefused(t, sealed(nil))
	b, h := spelled(example), head(20, 8, 2, 4)
	long := slices.Concat(h, make([]byte, 200))
	for n := range 200 {
		// Cut or padded at either end, and sealed anew; bytes behind the end, the right ones too, don't count.
		if n < 64 {
			isRefused(t, roomy(b[:n], b[n:]...))
			isRefused(t, b[64-n:])
		} else if n > 64 {
			isRefused(t, append(slices.Clone(b), make([]byte, n-64)...))
			isRefused(t, append(make([]byte, n-64), b...))
		}
		if n != 60 {
			isRefused(t, sealed(long[:n]))
			isRefused(t, roomy(sealed(long[:n]), b...))
		}
	}
	isRefused(t, slices.Concat(b, b))
	isRefused(t, slices.Concat(b, []byte{1}))
	isRefused(t, make([]byte, 1<<16))
	isRefused(t, append(spelled(example), make([]byte, 1<<16)...))
}

func TestTakeRefusesOtherSectors(t *testing.T) {
	isRefused(t, make([]byte, 64))
	isRefused(t, bytes.Repeat([]byte{255}, 64))
	isRefused(t, sealed(make([]byte, 60)))
	isRefused(t, sealed(bytes.Repeat([]byte{255}, 60)))
	// Fields with their greatest byte first, in four bytes, or in another order.
	isRefused(t, sealed(append([]byte("moat\x00\x14\x00\x08\x00\x02\x00\x04"), make([]byte, 48)...)))
	isRefused(t, sealed(append([]byte("moat\x14\x00\x00\x00\x08\x00\x00\x00\x02\x00\x00\x00\x04\x00\x00\x00"), make([]byte, 40)...)))
	isRefused(t, sealed(head(2, 8, 20, 4)))
}

func TestTakeDoesNotReadBeyondTheEnd(t *testing.T) {
	for _, c := range []byte{0, 1, 255} {
		isTaken(t, roomy(spelled(example), bytes.Repeat([]byte{c}, 40)...), example)
	}
}

func TestTakeChangesNothing(t *testing.T) {
	for _, b := range [][]byte{spelled(example), sealed(head(2, 8, 2, 4)), make([]byte, 64), make([]byte, 60), spelled(example)[:63]} {
		more := bytes.Repeat([]byte{238}, 40)
		c := roomy(b, more...)
		super.Take(c)
		if !bytes.Equal(c, b) || !bytes.Equal(c[len(c):cap(c)][:40], more) {
			t.Errorf("the argument became %v, was %v", c[:len(c)+40], b)
		}
	}
}

// A geometry that was taken stays as it is when the bytes change.
func TestTakeKeepsNothing(t *testing.T) {
	b := spelled(example)
	g, _ := super.Take(b)
	copy(b, spelled(api.Geo{Journal: 1000, Inodes: 64, Groups: 64, PerGroup: 8}))
	if g != example {
		t.Errorf("got %v", g)
	}
	isTaken(t, b, api.Geo{Journal: 1000, Inodes: 64, Groups: 64, PerGroup: 8})
	clear(b)
	isTaken(t, spelled(example), example)
}

func TestLayReturnsNewMemory(t *testing.T) {
	one, _ := super.Lay(example)
	other, _ := super.Lay(example)
	one = one[:cap(one)]
	for i := range one {
		one[i] = 77
	}
	if third, _ := super.Lay(example); !bytes.Equal(other, spelled(example)) || !bytes.Equal(third, spelled(example)) {
		t.Errorf("a result changed with another one: %v, %v", other, third)
	}
	isTaken(t, other, example)
}

// P9.4

func TestTakeReturnsWhatLayStored(t *testing.T) {
	for _, g := range valid() {
		b, _ := super.Lay(g)
		isTaken(t, b, g)
	}
}

// Each sector is counted in each part that has it.
func TestPartsFillTheDisk(t *testing.T) {
	for _, g := range valid() {
		l, _ := super.Plan(g)
		count := make([]int, l.All)
		for _, part := range [][2]int{{0, 1}, {l.Journal, g.Journal}, {l.Labels, 1}, {l.Groups, 1}, {l.Bits, 1}, {l.Inodes, g.Inodes / 2}, {l.Blocks, g.Groups * g.PerGroup}} {
			for k := range part[1] {
				count[part[0]+k]++
			}
		}
		if len(count) == 0 || slices.Min(count) != 1 || slices.Max(count) != 1 || l.All > api.MaxSectors {
			t.Fatalf("Plan of %v: got %v, in which parts overlap, or sectors are in none", g, l)
		}
	}
}

// The inodes fit their sectors, two in each, and the bits, the owners and the labels one sector each.
func TestPartsHaveRoom(t *testing.T) {
	for _, g := range valid() {
		l, _ := super.Plan(g)
		if (l.Blocks-l.Inodes)*api.SectorSize != g.Inodes*api.InodeSize || l.All-l.Blocks > 8*api.SectorSize || g.Groups > api.SectorSize || super.Meta(g) != l.Blocks-l.Labels {
			t.Fatalf("Plan of %v: got %v", g, l)
		}
	}
}

func TestEachBlockHasAGroup(t *testing.T) {
	for _, g := range parted() {
		g.Journal, g.Inodes = 1000, 64
		l, _ := super.Plan(g)
		count := make([]int, g.Groups)
		for block := range l.All - l.Blocks {
			n, is := super.Group(g, block)
			if !is || n < 0 || n >= g.Groups {
				t.Fatalf("Group of %v and block %d: got %d, %v", g, block, n, is)
			}
			count[n]++
		}
		if slices.Min(count) != g.PerGroup || slices.Max(count) != g.PerGroup {
			t.Errorf("the groups of %v have %v blocks", g, count)
		}
	}
}

func TestTheSameCallsReturnTheSame(t *testing.T) {
	for _, g := range append(wrong(), example) {
		one, e := super.Lay(g)
		super.Take(make([]byte, 64))
		super.Take(spelled(api.Geo{Journal: 3, Inodes: 2, Groups: 1, PerGroup: 1}))
		other, f := super.Lay(g)
		if e != f || !bytes.Equal(one, other) {
			t.Errorf("two calls for %v differ", g)
		}
	}
}
