package meta_test

import (
	"bytes"
	"math"
	"slices"
	"testing"

	"moat/api"
	"moat/meta"
)

func isNew(t *testing.T, g api.Geo) {
	t.Helper()
	if m, e := meta.New(g); e != api.OK || !same(m, empty(g)) {
		t.Errorf("New of %v: got %v, error %d", g, m, e)
	}
}

func isNothing(m api.Meta) bool {
	return len(m.Rows)+len(m.Owners)+len(m.Used)+len(m.Inodes) == 0
}

func notNew(t *testing.T, g api.Geo) {
	t.Helper()
	if m, e := meta.New(g); e != api.ErrArg || !isNothing(m) {
		t.Errorf("New of %v: got %v, error %d; want none, error %d", g, m, e, api.ErrArg)
	}
}

func isRight(t *testing.T, g api.Geo, m api.Meta, want bool) {
	t.Helper()
	if meta.Right(g, m) != want {
		t.Errorf("Right of %v and %v: got %v", g, m, !want)
	}
}

func isLaid(t *testing.T, g api.Geo, m api.Meta, want [][]byte) {
	t.Helper()
	if l, e := meta.Lay(g, m); e != api.OK || !sameSectors(l, want) {
		t.Errorf("Lay of %v and %v: got %v, error %d; want %v", g, m, l, e, want)
	}
}

func notLaid(t *testing.T, g api.Geo, m api.Meta) {
	t.Helper()
	if l, e := meta.Lay(g, m); e != api.ErrArg || len(l) != 0 {
		t.Errorf("Lay of %v and %v: got %v, error %d; want none, error %d", g, m, l, e, api.ErrArg)
	}
}

func isTaken(t *testing.T, g api.Geo, l [][]byte, want api.Meta) {
	t.Helper()
	if m, e := meta.Take(g, l); e != api.OK || !same(m, want) {
		t.Errorf("Take of %v and %v: got %v, error %d; want %v", g, l, m, e, want)
	}
}

func isRefused(t *testing.T, g api.Geo, l [][]byte) {
	t.Helper()
	if m, e := meta.Take(g, l); e != api.ErrMeta || !isNothing(m) {
		t.Errorf("Take of %v and %v: got %v, error %d; want none, error %d", g, l, m, e, api.ErrMeta)
	}
}

// takenIfRight fails the test if Take does not return what the model finds in the sectors; it reports whether that is metadata.
func takenIfRight(t *testing.T, g api.Geo, l [][]byte) bool {
	t.Helper()
	m, is := found(g, l)
	if is {
		isTaken(t, g, l, m)
	} else {
		isRefused(t, g, l)
	}
	return is
}

// The geometries and the metadata of the tests are what they are said to be.
func TestModel(t *testing.T) {
	for _, g := range geometries() {
		if !isGeo(g) {
			t.Errorf("%v is not valid", g)
		}
		for _, m := range valid(g) {
			if !isValid(g, m) {
				t.Errorf("%v is not valid for %v", m, g)
			}
		}
		for _, m := range wrong(g) {
			if isValid(g, m) {
				t.Errorf("%v is valid for %v", m, g)
			}
		}
	}
	for _, g := range wrongGeometries() {
		if isGeo(g) {
			t.Errorf("%v is valid", g)
		}
	}
	for _, l := range wrongTables() {
		if isTable(l) {
			t.Errorf("%v are valid", l)
		}
	}
	for _, n := range wrongInodes() {
		if isInode(n) {
			t.Errorf("%v is valid", n)
		}
	}
}

// P14.1

func TestNewOfEachGeometry(t *testing.T) {
	for _, g := range geometries() {
		isNew(t, g)
		m, _ := meta.New(g)
		isRight(t, g, m, true)
	}
	for groups := 1; groups <= 64; groups++ {
		for _, per := range []int{1, 2, blocks / groups} {
			isNew(t, api.Geo{Journal: 3, Inodes: 2, Groups: groups, PerGroup: per})
		}
	}
	for inodes := 2; inodes <= 64; inodes += 2 {
		isNew(t, api.Geo{Journal: 1000, Inodes: inodes, Groups: 1, PerGroup: 1})
	}
}

// A table of labels, the bits, and so on have their sizes, whatever the geometry.
func TestNewAtTheEdges(t *testing.T) {
	for _, x := range []struct {
		g              api.Geo
		owners, inodes int
	}{{least, 1, 2}, {greatest, 64, 64}, {together, 1, 4}, {example, 2, 8}} {
		m, e := meta.New(x.g)
		if e != api.OK || len(m.Rows) != 16 || len(m.Owners) != x.owners || len(m.Used) != 64 || len(m.Inodes) != x.inodes {
			t.Errorf("New of %v: got %v, error %d", x.g, m, e)
		}
	}
}

func TestNewRefusesWrongGeometries(t *testing.T) {
	for _, g := range wrongGeometries() {
		notNew(t, g)
	}
}

func TestRightOfMetadata(t *testing.T) {
	for _, g := range geometries() {
		for _, m := range append(valid(g), some(g, 100)...) {
			isRight(t, g, m, true)
		}
		for _, m := range wrong(g) {
			isRight(t, g, m, false)
		}
	}
}

// fitting returns metadata with as many owners and inodes as g says, if these are numbers that can be.
func fitting(g api.Geo) api.Meta {
	g.Groups, g.Inodes = min(max(g.Groups, 0), 600), min(max(g.Inodes, 0), 600)
	return empty(g)
}

// Metadata that fits a geometry is not valid if that isn't, as with 1 or 3 inodes, with no group, and with 65 of them.
func TestRightOfWrongGeometries(t *testing.T) {
	for _, g := range wrongGeometries() {
		for _, m := range []api.Meta{fitting(g), full(example), empty(example), empty(least), full(greatest), {}} {
			isRight(t, g, m, false)
			notLaid(t, g, m)
		}
	}
	for _, g := range []api.Geo{{Journal: 20, Inodes: 1, Groups: 2, PerGroup: 4}, {Journal: 20, Inodes: 3, Groups: 2, PerGroup: 4}, {Journal: 20, Inodes: 65, Groups: 2, PerGroup: 4}, {Journal: 20, Inodes: 66, Groups: 2, PerGroup: 4}, {Journal: 20, Groups: 2, PerGroup: 4},
		{Journal: 20, Inodes: 8, Groups: 65, PerGroup: 1}, {Journal: 20, Inodes: 8, PerGroup: 4}, {Journal: 20, Inodes: 8, Groups: 2}, {Journal: 20, Inodes: 8, Groups: 2, PerGroup: -4}, {Journal: 20, Inodes: 8, Groups: 1, PerGroup: 513}, {Journal: 20, Inodes: 8, Groups: 64, PerGroup: 9}, {Journal: 2, Inodes: 8, Groups: 2, PerGroup: 4}, {Journal: 1001, Inodes: 8, Groups: 2, PerGroup: 4}} {
		m := fitting(g)
		if len(m.Inodes) != g.Inodes || len(m.Owners) != g.Groups {
			t.Errorf("%v does not fit %v", m, g)
		}
		isRight(t, g, m, false)
		notLaid(t, g, m)
	}
}

// Metadata for one geometry is valid for those alone that have as many groups and inodes, and the blocks.
func TestRightOfOtherGeometries(t *testing.T) {
	for _, g := range geometries() {
		for _, h := range geometries() {
			for _, m := range bases(h) {
				isRight(t, g, m, isValid(g, m))
			}
		}
	}
	for _, x := range []struct {
		g    api.Geo
		want bool
	}{
		{api.Geo{Journal: 3, Inodes: 8, Groups: 2, PerGroup: 4}, true}, {api.Geo{Journal: 1000, Inodes: 8, Groups: 2, PerGroup: 4}, true},
		{api.Geo{Journal: 20, Inodes: 8, Groups: 2, PerGroup: 5}, true}, {api.Geo{Journal: 20, Inodes: 8, Groups: 2, PerGroup: 3}, false},
		{api.Geo{Journal: 20, Inodes: 6, Groups: 2, PerGroup: 4}, false}, {api.Geo{Journal: 20, Inodes: 10, Groups: 2, PerGroup: 4}, false},
		{api.Geo{Journal: 20, Inodes: 8, Groups: 1, PerGroup: 8}, false}, {api.Geo{Journal: 20, Inodes: 8, Groups: 4, PerGroup: 2}, false},
	} {
		isRight(t, x.g, full(example), x.want)
	}
}

func TestRightOfEachOwner(t *testing.T) {
	for _, g := range geometries() {
		for _, base := range bases(g) {
			for i := range g.Groups {
				m := clone(base)
				for n := -20; n <= 300; n++ {
					m.Owners[i] = n
					isRight(t, g, m, 0 <= n && n <= 16)
				}
				for _, n := range append([]int{blocks, 768}, extremes...) {
					m.Owners[i] = n
					isRight(t, g, m, false)
				}
			}
		}
	}
}

func TestRightOfEachNumberOfOwners(t *testing.T) {
	for _, g := range geometries() {
		for n := range 130 {
			for _, owner := range []int{0, 1, 16} {
				m := full(g)
				m.Owners = slices.Repeat([]int{owner}, n)
				isRight(t, g, m, n == g.Groups)
			}
		}
	}
}

func TestRightOfEachNumberOfRows(t *testing.T) {
	for _, g := range geometries() {
		for n := range 66 {
			m := full(g)
			m.Rows = make([]api.Row, n)
			isRight(t, g, m, n == 16)
			for i := range m.Rows {
				m.Rows[i] = api.Row{Label: api.Label(i), Refs: refs}
			}
			isRight(t, g, m, n == 16)
		}
	}
}

func TestRightOfEachNumberOfBytes(t *testing.T) {
	for _, g := range geometries() {
		for n := range 200 {
			m := full(g)
			m.Used = make([]byte, n)
			isRight(t, g, m, n == 64)
			m.Used = append(slices.Clone(full(g).Used), make([]byte, 200)...)[:n]
			isRight(t, g, m, n == 64)
		}
		for _, n := range []int{511, 512, 513, 4096, 1 << 16} {
			m := empty(g)
			m.Used = make([]byte, n)
			isRight(t, g, m, false)
		}
	}
}

// Each bit is set alone, and each is the only one that is not set.
func TestRightOfEachBit(t *testing.T) {
	for _, g := range geometries() {
		count := g.Groups * g.PerGroup
		for i := range 8 * size {
			isRight(t, g, changed(empty(g), setBit(i)), i < count)
			isRight(t, g, changed(full(g), setBit(i)), i < count)
			m := full(g)
			m.Used = bytes.Repeat([]byte{255}, size)
			m.Used[i/8] &^= 1 << (i % 8)
			isRight(t, g, m, count == 512 || count == 511 && i == 511)
		}
	}
}

// The first block, the last one, and the first that does not exist, with all numbers of groups and of blocks in each.
func TestRightAtTheLastBlock(t *testing.T) {
	for groups := 1; groups <= 64; groups++ {
		for per := 1; groups*per <= blocks; per++ {
			g := api.Geo{Journal: 3, Inodes: 2, Groups: groups, PerGroup: per}
			isRight(t, g, changed(empty(g), setBit(0)), true)
			isRight(t, g, changed(empty(g), setBit(groups*per-1)), true)
			if groups*per < blocks {
				isRight(t, g, changed(empty(g), setBit(groups*per)), false)
			}
		}
	}
}

func TestRightOfAllBits(t *testing.T) {
	for _, g := range geometries() {
		m := empty(g)
		m.Used = bytes.Repeat([]byte{255}, size)
		isRight(t, g, m, g.Groups*g.PerGroup == 512)
	}
}

func TestRightOfEachNumberOfInodes(t *testing.T) {
	for _, g := range geometries() {
		for n := range 130 {
			m := full(g)
			m.Inodes = make([]api.Inode, n)
			isRight(t, g, m, n == g.Inodes)
			m.Inodes = slices.Repeat([]api.Inode{{Kind: 2, Links: 1}}, n)
			isRight(t, g, m, n == g.Inodes)
		}
	}
}

// What is wrong is not made up for by what else is wrong.
func TestRightOfTwoReasons(t *testing.T) {
	turns := []func(*api.Meta){
		func(m *api.Meta) { m.Rows = m.Rows[:15] },
		func(m *api.Meta) { m.Rows[15] = api.Row{Label: 1} },
		func(m *api.Meta) { m.Owners = m.Owners[:1] },
		func(m *api.Meta) { m.Owners = append(m.Owners, 0) },
		func(m *api.Meta) { m.Owners[0] = -1 },
		func(m *api.Meta) { m.Owners[0] = 17 },
		func(m *api.Meta) { m.Used = m.Used[:63] },
		func(m *api.Meta) { m.Used[1] = 1 },
		func(m *api.Meta) { m.Inodes = m.Inodes[:7] },
		func(m *api.Meta) { m.Inodes = append(m.Inodes, api.Inode{}) },
		func(m *api.Meta) { m.Inodes[0] = api.Inode{Kind: 3} },
		func(m *api.Meta) { m.Inodes[6] = api.Inode{Row: 1} },
		func(m *api.Meta) { m.Rows = nil },
		func(m *api.Meta) { m.Owners = nil },
		func(m *api.Meta) { m.Used = nil },
		func(m *api.Meta) { m.Inodes = nil },
	}
	for i, one := range turns {
		isRight(t, example, changed(full(example), one), false)
		// Each slice is taken away behind all the others, so that no turn meets an empty one.
		for _, two := range turns[max(i+1, 12):] {
			m := changed(full(example), one, two)
			isRight(t, example, m, false)
			notLaid(t, example, m)
		}
	}
}

// Nothing ties the parts of metadata to one another: an owner may have a row that is free, a block no owner, an inode a row that is free.
func TestRightDoesNotTieThePartsTogether(t *testing.T) {
	for _, g := range geometries() {
		none, all := empty(g), full(g)
		for n := range 16 {
			m := none
			if n&1 != 0 {
				m.Rows = all.Rows
			}
			if n&2 != 0 {
				m.Owners = all.Owners
			}
			if n&4 != 0 {
				m.Used = all.Used
			}
			if n&8 != 0 {
				m.Inodes = all.Inodes
			}
			isRight(t, g, m, true)
			isLaid(t, g, m, spelled(m))
			isTaken(t, g, spelled(m), m)
		}
	}
}

// P14.2

// The chapter's example.
func TestExample(t *testing.T) {
	m, e := meta.New(example)
	if e != api.OK || len(m.Rows) != 16 || len(m.Owners) != 2 || len(m.Used) != 64 || len(m.Inodes) != 8 {
		t.Errorf("got %v, error %d", m, e)
	}
	want := [][]byte{make([]byte, 64), make([]byte, 64), make([]byte, 64), make([]byte, 64), make([]byte, 64), make([]byte, 64), make([]byte, 64)}
	isLaid(t, example, m, want)
	isTaken(t, example, want, m)
}

func TestKnownSectors(t *testing.T) {
	g := api.Geo{Journal: 60, Inodes: 4, Groups: 3, PerGroup: 5}
	m := empty(g)
	m.Rows[0] = api.Row{Label: 772, Refs: 258}
	m.Rows[15] = api.Row{Label: 0, Refs: 1}
	m.Owners = []int{1, 0, 16}
	m.Used[0], m.Used[1] = 129, 64
	m.Inodes[1] = api.Inode{Kind: 1, Row: 15, Links: 258, Size: 772, Direct: [8]int{1, 256, 3, 512, 5, 257, 7, 300}, Ind: 9, Dind: 266}
	m.Inodes[2] = api.Inode{Kind: 2, Links: 1}
	zeros := func(n int) []byte { return make([]byte, n) }
	want := [][]byte{
		slices.Concat([]byte{4, 3, 2, 1}, zeros(56), []byte{0, 0, 1, 0}),
		slices.Concat([]byte{1, 0, 16}, zeros(61)),
		slices.Concat([]byte{129, 64}, zeros(62)),
		slices.Concat(zeros(32), []byte{1, 15, 2, 1, 4, 3, 1, 0, 0, 1, 3, 0, 0, 2, 5, 0, 1, 1, 7, 0, 44, 1, 9, 0, 10, 1}, zeros(6)),
		slices.Concat([]byte{2, 0, 1, 0}, zeros(60)),
	}
	isLaid(t, g, m, want)
	isTaken(t, g, want, m)
}

func TestLayAndTakeOfMetadata(t *testing.T) {
	for _, g := range geometries() {
		for _, m := range append(valid(g), some(g, 100)...) {
			l := spelled(m)
			if len(l) != 3+g.Inodes/2 {
				t.Errorf("%v has %d sectors", g, len(l))
			}
			isLaid(t, g, m, l)
			isTaken(t, g, l, m)
		}
	}
}

func TestLayRefusesWrongMetadata(t *testing.T) {
	for _, g := range geometries() {
		for _, m := range wrong(g) {
			notLaid(t, g, m)
		}
	}
}

// Of all sectors that differ from right ones in one byte, those of metadata are taken, and the others are refused.
func TestTakeOfAnyOtherByte(t *testing.T) {
	for _, g := range []api.Geo{least, example} {
		for _, m := range []api.Meta{full(g), half(g)} {
			for i := range spelled(m) {
				for k := range size {
					l, taken := spelled(m), 0
					for c := range 256 {
						l[i][k] = byte(c)
						if takenIfRight(t, g, l) {
							taken++
						}
					}
					if want := mayBe(g, i, k); want > 0 && taken != want {
						t.Errorf("of %v, %d bytes %d of sector %d are taken, want %d", g, taken, k, i, want)
					}
				}
			}
		}
	}
}

// mayBe returns how many bytes may be in that place where it does not depend on the other ones: those of the owners, of the bits, and of their padding; otherwise 0.
func mayBe(g api.Geo, sector, at int) int {
	switch {
	case sector == 1 && at < g.Groups:
		return 17
	case sector == 1:
		return 1
	case sector == 2:
		return 1 << min(8, max(0, g.Groups*g.PerGroup-8*at))
	}
	return 0
}

// In the sectors of a great disk, each byte becomes some others, which are about the limits of what it may be.
func TestTakeOfOtherBytesOfGreatDisks(t *testing.T) {
	for _, x := range []struct {
		g api.Geo
		m api.Meta
	}{{greatest, full(greatest)}, {uneven, half(uneven)}, {together, full(together)}, {together, empty(together)}} {
		l := spelled(x.m)
		for i := range l {
			for k, old := range l[i] {
				for _, c := range []byte{old + 1, old ^ 128, 17} {
					l[i][k] = c
					takenIfRight(t, x.g, l)
				}
				l[i][k] = old
			}
		}
	}
}

// Behind the owners there are no other bytes than 0, also not several ones that make up for each other.
func TestTakeRefusesOtherPadding(t *testing.T) {
	for _, g := range geometries() {
		for _, m := range bases(g) {
			for i := g.Groups; i < size; i++ {
				for _, c := range []byte{1, 16, 17, 128, 255} {
					l := spelled(m)
					l[1][i] = c
					isRefused(t, g, l)
					l[1][size-1] = -c
					isRefused(t, g, l)
				}
			}
		}
	}
}

// The bytes of wrong metadata are refused, where these are bytes at all: a number that needs more of them becomes another one.
func TestTakeRefusesWrongMetadata(t *testing.T) {
	for _, g := range []api.Geo{least, example, together, uneven} {
		refused := 0
		for _, m := range wrong(g) {
			if len(m.Rows) != table || len(m.Owners) > size || len(m.Inodes)%2 != 0 {
				continue
			}
			if !takenIfRight(t, g, spelled(m)) {
				refused++
			}
		}
		if refused < 1000 {
			t.Errorf("of %v, only %d are refused", g, refused)
		}
	}
}

func TestTakeRefusesWrongGeometries(t *testing.T) {
	for _, g := range wrongGeometries() {
		isRefused(t, g, nil)
		isRefused(t, g, [][]byte{})
		for _, m := range []api.Meta{fitting(g), full(example), empty(example), empty(least), full(greatest)} {
			if len(m.Owners) > size || len(m.Inodes)%2 != 0 {
				continue
			}
			isRefused(t, g, spelled(m))
		}
		for n := range 8 {
			isRefused(t, g, slices.Repeat([][]byte{make([]byte, size)}, n))
		}
	}
	// There are as many sectors as an odd number of inodes would need, rounded down or up.
	for _, inodes := range []int{1, 3, 7, 63, 65} {
		for n := range 40 {
			isRefused(t, api.Geo{Journal: 20, Inodes: inodes, Groups: 2, PerGroup: 4}, slices.Repeat([][]byte{make([]byte, size)}, n))
		}
	}
}

// Sectors that were laid for another geometry are taken where they are metadata for this one, too.
func TestTakeForOtherGeometries(t *testing.T) {
	for _, g := range geometries() {
		for _, h := range geometries() {
			for _, m := range append(bases(h), some(h, 3)...) {
				takenIfRight(t, g, spelled(m))
			}
		}
	}
	for _, x := range []struct {
		g    api.Geo
		want bool
	}{
		{api.Geo{Journal: 3, Inodes: 8, Groups: 2, PerGroup: 4}, true}, {api.Geo{Journal: 20, Inodes: 8, Groups: 3, PerGroup: 4}, true},
		{api.Geo{Journal: 20, Inodes: 8, Groups: 1, PerGroup: 8}, false}, {api.Geo{Journal: 20, Inodes: 8, Groups: 2, PerGroup: 3}, false},
		{api.Geo{Journal: 20, Inodes: 6, Groups: 2, PerGroup: 4}, false}, {api.Geo{Journal: 20, Inodes: 10, Groups: 2, PerGroup: 4}, false},
	} {
		if takenIfRight(t, x.g, spelled(full(example))) != x.want {
			t.Errorf("for %v, got %v", x.g, !x.want)
		}
	}
}

func TestTakeRefusesOtherNumbersOfSectors(t *testing.T) {
	for _, g := range geometries() {
		for _, m := range bases(g) {
			l := spelled(m)
			isRefused(t, g, nil)
			isRefused(t, g, [][]byte{})
			for n := range l {
				// Sectors behind the end don't make up for those that are missing.
				isRefused(t, g, l[:n])
				isRefused(t, g, slices.Clone(l[:n]))
				isRefused(t, g, l[len(l)-n:])
				isRefused(t, g, slices.Delete(slices.Clone(l), n, n+1))
				isRefused(t, g, slices.Insert(slices.Clone(l), n, l[n]))
			}
			for _, more := range [][]byte{nil, {}, make([]byte, size), l[len(l)-1]} {
				isRefused(t, g, append(slices.Clone(l), more))
				isRefused(t, g, append([][]byte{more}, l...))
				isRefused(t, g, append(slices.Clone(l), more, more))
			}
			isRefused(t, g, slices.Concat(l, l))
		}
	}
	for _, n := range []int{0, 1, 2, 3, 6, 8, 9, 35, 100} {
		isRefused(t, example, slices.Repeat([][]byte{make([]byte, size)}, n))
		isRefused(t, example, make([][]byte, n))
	}
	isRefused(t, example, make([][]byte, 7))
}

// No sector may have another size, also if another one makes up for it, or if the rest is behind its end.
func TestTakeRefusesOtherSizesOfSectors(t *testing.T) {
	for _, g := range geometries() {
		for _, m := range bases(g) {
			l := spelled(m)
			for i, b := range l {
				for _, c := range [][]byte{nil, {}, b[:1], b[:32], b[:63], slices.Clone(b[:63]), b[1:], append(slices.Clone(b), 0), append(slices.Clone(b), 1), append([]byte{0}, b...), append(slices.Clone(b), b...), make([]byte, 96), make([]byte, 4096)} {
					isRefused(t, g, changedSectors(l, func(l [][]byte) [][]byte { l[i] = c; return l }))
				}
				if i == 0 {
					continue
				}
				for _, n := range []int{0, 1, 32, 63, 65, 96, 128} {
					both := slices.Concat(l[i-1], b)
					isRefused(t, g, changedSectors(l, func(l [][]byte) [][]byte { l[i-1], l[i] = both[:n], both[n:]; return l }))
				}
			}
		}
	}
	isRefused(t, example, [][]byte{slices.Concat(spelled(full(example))...)})
}

// The sectors are in their order.
func TestTakeOfSectorsInAnotherOrder(t *testing.T) {
	for _, g := range geometries() {
		for _, m := range bases(g) {
			l := spelled(m)
			for i := range l {
				for j := range i {
					takenIfRight(t, g, changedSectors(l, func(l [][]byte) [][]byte { l[i], l[j] = l[j], l[i]; return l }))
				}
			}
		}
		l := spelled(full(g))
		isRefused(t, g, changedSectors(l, func(l [][]byte) [][]byte { l[0], l[1] = l[1], l[0]; return l }))
		isRefused(t, g, changedSectors(l, func(l [][]byte) [][]byte { slices.Reverse(l); return l }))
	}
}

func isCopied(t *testing.T, m api.Meta) {
	t.Helper()
	if c := meta.Copy(m); !same(c, m) {
		t.Errorf("Copy of %v: got %v", m, c)
	}
}

func TestCopyOfMetadata(t *testing.T) {
	for _, g := range geometries() {
		for _, m := range append(valid(g), wrong(g)...) {
			isCopied(t, m)
		}
	}
}

// Metadata that is not valid is copied as well: of any lengths, and with any numbers.
func TestCopyOfWrongMetadata(t *testing.T) {
	isCopied(t, api.Meta{})
	isCopied(t, api.Meta{Rows: []api.Row{}, Owners: []int{}, Used: []byte{}, Inodes: []api.Inode{}})
	for n := range 200 {
		isCopied(t, api.Meta{Rows: slices.Repeat([]api.Row{{Label: 9, Refs: -9}}, n)})
		isCopied(t, api.Meta{Owners: slices.Repeat([]int{math.MinInt}, n)})
		isCopied(t, api.Meta{Used: bytes.Repeat([]byte{255}, n)})
		isCopied(t, api.Meta{Inodes: slices.Repeat([]api.Inode{{Kind: 255, Row: 255, Links: -1, Size: math.MaxInt, Direct: [8]int{7: -8}, Ind: -9, Dind: 1 << 40}}, n)})
	}
	for _, n := range extremes {
		isCopied(t, api.Meta{Rows: []api.Row{{Refs: n}, {}}, Owners: []int{n, 0, n}, Inodes: []api.Inode{{Links: n}, {Dind: n}}})
	}
}

// What is nil in metadata is what is empty.
func TestNilIsEmpty(t *testing.T) {
	for _, g := range append(geometries(), wrongGeometries()...) {
		for _, m := range []api.Meta{{}, {Rows: []api.Row{}, Owners: []int{}, Used: []byte{}, Inodes: []api.Inode{}}} {
			isRight(t, g, m, false)
			notLaid(t, g, m)
		}
	}
}

// Whose memory it is

// scribble writes e into all that l has room for.
func scribble[E any](l []E, e E) {
	l = l[:cap(l)]
	for i := range l {
		l[i] = e
	}
}

func scribbleMeta(m api.Meta) {
	scribble(m.Rows, api.Row{Label: 77, Refs: 77})
	scribble(m.Owners, 77)
	scribble(m.Used, 77)
	scribble(m.Inodes, api.Inode{Kind: 77, Row: 77, Links: 77})
}

func scribbleSectors(l [][]byte) {
	for _, b := range l {
		scribble(b, 77)
	}
	scribble(l, []byte{77})
}

// makers are the calls that return metadata, each with what it returns, and with a function that writes into what it was given.
func makers(g api.Geo, m api.Meta) map[string]func() (made, want api.Meta, spoil func()) {
	return map[string]func() (api.Meta, api.Meta, func()){
		"New": func() (api.Meta, api.Meta, func()) {
			n, _ := meta.New(g)
			return n, empty(g), func() {}
		},
		"Take": func() (api.Meta, api.Meta, func()) {
			l := spelled(m)
			n, _ := meta.Take(g, l)
			return n, m, func() { scribbleSectors(l) }
		},
		"Copy": func() (api.Meta, api.Meta, func()) {
			c := clone(m)
			return meta.Copy(c), m, func() { scribbleMeta(c) }
		},
	}
}

func TestMetadataIsTheCallers(t *testing.T) {
	for _, g := range geometries() {
		for _, m := range bases(g) {
			for name, call := range makers(g, m) {
				one, _, _ := call()
				other, want, spoil := call()
				scribbleMeta(one)
				spoil()
				third, _, _ := call()
				if !same(other, want) || !same(third, want) {
					t.Errorf("%s: a result changed with another one, or with what it was made of: %v, %v; want %v", name, other, third, want)
				}
			}
		}
	}
}

func TestResultsDoNotChangeArguments(t *testing.T) {
	for _, g := range geometries() {
		for _, m := range bases(g) {
			l, c := spelled(m), clone(m)
			one, _ := meta.Take(g, l)
			scribbleMeta(one)
			scribbleMeta(meta.Copy(c))
			two, _ := meta.Lay(g, c)
			scribbleSectors(two)
			if !sameSectors(l, spelled(m)) || !same(c, m) {
				t.Errorf("an argument changed with a result: %v, %v", l, c)
			}
		}
	}
}

func TestSectorsAreTheCallers(t *testing.T) {
	for _, g := range geometries() {
		for _, m := range bases(g) {
			c := clone(m)
			one, _ := meta.Lay(g, c)
			other, _ := meta.Lay(g, c)
			scribbleSectors(one)
			isLaid(t, g, c, spelled(m))
			scribbleMeta(c)
			if !sameSectors(other, spelled(m)) {
				t.Errorf("a result changed with another one, or with its metadata: %v", other)
			}
		}
	}
}

// Each sector has memory of its own, also behind its end.
func TestSectorsShareNoMemory(t *testing.T) {
	for _, g := range geometries() {
		for _, m := range bases(g) {
			want := spelled(m)
			for i := range want {
				l, _ := meta.Lay(g, m)
				scribble(l[i], 77)
				want[i] = bytes.Repeat([]byte{77}, size)
				if !sameSectors(l, want) {
					t.Errorf("other sectors changed with sector %d: %v", i, l)
				}
				want[i] = spelled(m)[i]
			}
		}
	}
}

// roomyMeta returns a copy of m in which there is more behind the end of each slice, twice what there is before it.
func roomyMeta(m api.Meta) api.Meta {
	return api.Meta{
		Rows:   roomy(m.Rows, append(slices.Clone(m.Rows), api.Row{Label: 5, Refs: -5})...),
		Owners: roomy(m.Owners, append(slices.Clone(m.Owners), -5)...),
		Used:   roomy(m.Used, append(slices.Clone(m.Used), 255)...),
		Inodes: roomy(m.Inodes, append(slices.Clone(m.Inodes), api.Inode{Kind: 55})...),
	}
}

// whole returns a copy of m with all that its slices have room for.
func whole(m api.Meta) api.Meta {
	return clone(api.Meta{Rows: m.Rows[:cap(m.Rows)], Owners: m.Owners[:cap(m.Owners)], Used: m.Used[:cap(m.Used)], Inodes: m.Inodes[:cap(m.Inodes)]})
}

func TestMetadataIsNotChanged(t *testing.T) {
	for _, g := range geometries() {
		for _, m := range append(valid(g), wrong(g)...) {
			c := roomyMeta(m)
			all := whole(c)
			meta.Right(g, c)
			meta.Lay(g, c)
			meta.Copy(c)
			if !same(c, m) || !same(whole(c), all) {
				t.Fatalf("the metadata became %v, was %v", whole(c), all)
			}
		}
	}
}

// roomySectors returns a copy of l in which there is more behind the end of each sector, and behind the last one.
func roomySectors(l [][]byte) [][]byte {
	l = cloneSectors(l)
	for i, b := range l {
		l[i] = roomy(b, append(slices.Clone(b), 238)...)
	}
	return roomy(l, append(slices.Clone(l), []byte{238})...)
}

// wholeSectors returns a copy of l with all that it and its sectors have room for.
func wholeSectors(l [][]byte) [][]byte {
	l = slices.Clone(l[:cap(l)])
	for i, b := range l {
		l[i] = slices.Clone(b[:cap(b)])
	}
	return l
}

func TestSectorsAreNotChanged(t *testing.T) {
	for _, g := range geometries() {
		for _, m := range bases(g) {
			l := spelled(m)
			padded := cloneSectors(l)
			padded[1][size-1]++
			for _, l := range [][][]byte{l, padded, l[:2], l[1:], {}, {l[0][:63]}} {
				c := roomySectors(l)
				all := wholeSectors(c)
				meta.Take(g, c)
				if !sameSectors(c, l) || !sameSectors(wholeSectors(c), all) {
					t.Fatalf("the sectors became %v, were %v", wholeSectors(c), all)
				}
			}
		}
	}
}

func TestNothingIsReadBeyondTheEnd(t *testing.T) {
	for _, g := range geometries() {
		for _, m := range append(bases(g), some(g, 3)...) {
			c := roomyMeta(m)
			isRight(t, g, c, true)
			isLaid(t, g, c, spelled(m))
			isCopied(t, c)
			isTaken(t, g, roomySectors(spelled(m)), m)
			for _, turn := range []func(*api.Meta){
				func(m *api.Meta) { m.Rows = m.Rows[:table-1] },
				func(m *api.Meta) { m.Owners = m.Owners[:g.Groups-1] },
				func(m *api.Meta) { m.Used = m.Used[:size-1] },
				func(m *api.Meta) { m.Inodes = m.Inodes[:g.Inodes-1] },
			} {
				short := c
				turn(&short)
				isRight(t, g, short, false)
				notLaid(t, g, short)
				isCopied(t, short)
			}
		}
	}
}

// P14.3

func TestTakeReturnsWhatLayStored(t *testing.T) {
	for _, g := range geometries() {
		for _, m := range append(valid(g), some(g, 200)...) {
			l, e := meta.Lay(g, m)
			n, f := meta.Take(g, l)
			if e != api.OK || f != api.OK || !same(n, m) {
				t.Errorf("Take of Lay of %v: got %v, errors %d, %d", m, n, e, f)
			}
		}
	}
}

// Lay returns the sectors that Take took, and Take takes none of which it doesn't.
func TestLayReturnsWhatTakeTook(t *testing.T) {
	next := dice()
	for _, g := range geometries() {
		taken, refused := 0, 0
		for _, m := range append(valid(g), some(g, 200)...) {
			l := spelled(m)
			for range 1 + next(2) {
				b := l[next(len(l))]
				b[next(size)] ^= byte(1 << next(8))
			}
			n, e := meta.Take(g, l)
			if e != api.OK {
				refused++
				continue
			}
			taken++
			if k, f := meta.Lay(g, n); f != api.OK || !sameSectors(k, l) {
				t.Errorf("Lay of Take of %v: got %v, error %d", l, k, f)
			}
		}
		if taken < 20 || refused < 20 {
			t.Errorf("of %v, %d are taken, %d refused", g, taken, refused)
		}
	}
}

// Different metadata has different sectors, so that these tell the metadata.
func TestMetadataHasItsOwnSectors(t *testing.T) {
	for _, g := range geometries() {
		all := map[string]api.Meta{}
		for _, m := range append(valid(g), some(g, 200)...) {
			l, _ := meta.Lay(g, m)
			key := string(slices.Concat(l...))
			if n, is := all[key]; is && !same(n, m) {
				t.Errorf("%v and %v have the same sectors", n, m)
			}
			all[key] = m
		}
	}
}

// changesOne fails the test if a turn of m changes any sector but that one, or doesn't change that one.
func changesOne(t *testing.T, g api.Geo, m api.Meta, want int, turn func(*api.Meta)) {
	t.Helper()
	n := changed(m, turn)
	before, e := meta.Lay(g, m)
	after, f := meta.Lay(g, n)
	if e != api.OK || f != api.OK || len(before) != len(after) {
		t.Fatalf("Lay of %v and of %v: errors %d, %d", m, n, e, f)
	}
	for i := range before {
		if bytes.Equal(before[i], after[i]) == (i == want) {
			t.Errorf("of %v, a change of sector %d: sector %d became %v, was %v", g, want, i, after[i], before[i])
		}
	}
	isTaken(t, g, after, n)
}

func TestOneChangeChangesOneSector(t *testing.T) {
	for _, g := range geometries() {
		for _, m := range append(bases(g), some(g, 2)...) {
			for i := range table {
				changesOne(t, g, m, 0, func(m *api.Meta) { m.Rows[i] = api.Row{Label: 7, Refs: 1 + m.Rows[i].Refs%refs} })
			}
			for i := range g.Groups {
				changesOne(t, g, m, 1, func(m *api.Meta) { m.Owners[i] = (m.Owners[i] + 1) % 17 })
			}
			for i := range g.Groups * g.PerGroup {
				changesOne(t, g, m, 2, func(m *api.Meta) { m.Used[i/8] ^= 1 << (i % 8) })
			}
			for i := range g.Inodes {
				changesOne(t, g, m, 3+i/2, func(m *api.Meta) {
					m.Inodes[i] = api.Inode{Kind: 1, Row: 3, Links: 65534 - m.Inodes[i].Links/2, Direct: [8]int{7: 1}}
				})
			}
		}
	}
}

func TestNoChangeChangesNoSector(t *testing.T) {
	for _, g := range geometries() {
		for _, m := range bases(g) {
			one, _ := meta.Lay(g, m)
			other, _ := meta.Lay(g, meta.Copy(m))
			if !sameSectors(one, other) {
				t.Errorf("of %v, a copy has other sectors: %v, %v", g, one, other)
			}
		}
	}
}

func TestTheSameCallsReturnTheSame(t *testing.T) {
	all, sectors := full(greatest), spelled(full(uneven))
	for _, g := range []api.Geo{least, example} {
		for _, m := range append(wrong(g), valid(g)...) {
			one, e := meta.Lay(g, m)
			meta.Lay(greatest, all)
			meta.Take(uneven, sectors)
			meta.Take(g, nil)
			other, f := meta.Lay(g, m)
			if e != f || !sameSectors(one, other) || meta.Right(g, m) != (e == api.OK) {
				t.Errorf("two calls for %v and %v differ", g, m)
			}
		}
	}
}
