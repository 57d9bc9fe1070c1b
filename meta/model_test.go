package meta_test

import (
	"bytes"
	"encoding/binary"
	"math"
	"math/big"
	"slices"

	"moat/api"
)

const (
	size    = 64    // bytes of a sector
	table   = 16    // rows of a table
	refs    = 65535 // references of a row, and links of an inode, at most
	longest = 3840  // bytes of a file at most
	blocks  = 512   // of a disk at most
	numbers = 12    // of an inode: Links, Size, the eight elements of Direct, Ind, and Dind
)

var (
	example  = api.Geo{Journal: 20, Inodes: 8, Groups: 2, PerGroup: 4} // of the chapter
	least    = api.Geo{Journal: 3, Inodes: 2, Groups: 1, PerGroup: 1}
	greatest = api.Geo{Journal: 1000, Inodes: 64, Groups: 64, PerGroup: 8}
	together = api.Geo{Journal: 60, Inodes: 4, Groups: 1, PerGroup: 512} // all blocks in one group
	uneven   = api.Geo{Journal: 999, Inodes: 62, Groups: 7, PerGroup: 73}
)

// geometries are valid ones: each of those above, and others at the edges of the fields.
func geometries() []api.Geo {
	return []api.Geo{
		example, least, greatest, together, uneven,
		{Journal: 3, Inodes: 64, Groups: 64, PerGroup: 1}, {Journal: 1000, Inodes: 2, Groups: 63, PerGroup: 8}, {Journal: 500, Inodes: 6, Groups: 2, PerGroup: 256},
		{Journal: 4, Inodes: 32, Groups: 3, PerGroup: 5}, {Journal: 70, Inodes: 10, Groups: 8, PerGroup: 8}, {Journal: 80, Inodes: 4, Groups: 1, PerGroup: 511},
	}
}

// extremes are far from all limits; most of them are within these if they are cut to fewer bits or have their sign taken away.
var extremes = []int{
	math.MinInt, math.MinInt + 1, math.MinInt + 4, -1<<32 + 1, -1<<32 + 4, -1 << 32, -1 << 31, -1<<16 + 4, -1 << 16, -refs, -blocks, -256, -64, -16, -8, -4, -3, -2, -1,
	1 << 16, 1<<16 + 4, 1<<16 + 8, 1 << 17, 1<<31 - 1, 1 << 31, 1 << 32, 1<<32 + 1, 1<<32 + 4, 1<<32 + 8, 1 << 62, 1<<62 + 4, math.MaxInt - 1, math.MaxInt,
}

// far are some of the extremes, for lists that would be too long with all of them.
var far = []int{math.MinInt, -1<<32 + 4, -1<<16 + 4, -1, 1 << 16, 1<<16 + 4, 1<<32 + 4, math.MaxInt}

// wrongGeometries are not valid: the zero one, those with one wrong field, and those whose blocks are too many, some of them so many that their number overflows.
func wrongGeometries() []api.Geo {
	l := []api.Geo{{}}
	for _, g := range []api.Geo{example, least, greatest} {
		for _, n := range append([]int{0, 1, 2, 3, 5, 63, 65, 66, 128, 256, 513, 1001, 1024}, extremes...) {
			a, b, c, d := g, g, g, g
			a.Journal, b.Inodes, c.Groups, d.PerGroup = n, n, n, n
			l = append(l, a, b, c, d)
		}
		for _, x := range [][2]int{{1, 513}, {2, 257}, {3, 171}, {7, 74}, {57, 9}, {64, 9}, {2, 1 << 62}, {4, 1 << 62}, {4, 1<<62 + 1}, {64, 1 << 58}, {64, 1<<58 + 8}} {
			h := g
			h.Groups, h.PerGroup = x[0], x[1]
			l = append(l, h)
		}
	}
	return slices.DeleteFunc(l, isGeo)
}

// isGeo holds a geometry against the words of the chapter on the superblock.
func isGeo(g api.Geo) bool {
	product := new(big.Int).Mul(big.NewInt(int64(g.Groups)), big.NewInt(int64(g.PerGroup)))
	switch {
	case g.Journal < 3, g.Journal > 1000, g.Inodes < 2, g.Inodes > 64, g.Inodes&1 == 1:
		return false
	case g.Groups < 1, g.Groups > 64, g.PerGroup < 1, product.Cmp(big.NewInt(blocks)) > 0:
		return false
	}
	return true
}

// isTable holds rows against the words of the chapter on the table of labels.
func isTable(l []api.Row) bool {
	count := map[api.Label]int{}
	for _, r := range l {
		switch {
		case r.Refs < 0, r.Refs > refs, r.Refs == 0 && r.Label != 0:
			return false
		case r.Refs > 0:
			count[r.Label]++
		}
	}
	for _, n := range count {
		if n > 1 {
			return false
		}
	}
	return len(l) == table
}

// ints returns the numbers of n in the order of its bytes.
func ints(n api.Inode) []int {
	return append(append([]int{n.Links, n.Size}, n.Direct[:]...), n.Ind, n.Dind)
}

// withInts returns n with these numbers.
func withInts(n api.Inode, l []int) api.Inode {
	n.Links, n.Size, n.Ind, n.Dind = l[0], l[1], l[10], l[11]
	copy(n.Direct[:], l[2:])
	return n
}

// limit returns the greatest value of that number of an inode.
func limit(number int) int {
	switch number {
	case 0:
		return refs
	case 1:
		return longest
	}
	return blocks
}

// isInode holds an inode against the words of the chapter on inodes.
func isInode(n api.Inode) bool {
	for i, k := range ints(n) {
		if k < 0 || k > limit(i) {
			return false
		}
	}
	return n == api.Inode{} || (n.Kind == 1 || n.Kind == 2) && n.Row < 16
}

// isValid holds metadata against the words of the chapter on it.
func isValid(g api.Geo, m api.Meta) bool {
	if !isGeo(g) || !isTable(m.Rows) || len(m.Owners) != g.Groups || len(m.Used) != size || len(m.Inodes) != g.Inodes {
		return false
	}
	for _, n := range m.Owners {
		if n < 0 || n > table {
			return false
		}
	}
	for i := g.Groups * g.PerGroup; i < 8*size; i++ {
		if m.Used[i/8]&(1<<(i%8)) != 0 {
			return false
		}
	}
	for _, n := range m.Inodes {
		if !isInode(n) {
			return false
		}
	}
	return true
}

// spelled returns the sectors of metadata; each number is cut to its bytes.
func spelled(m api.Meta) [][]byte {
	var labels, inodes []byte
	for _, r := range m.Rows {
		labels = binary.LittleEndian.AppendUint16(labels, uint16(r.Label))
		labels = binary.LittleEndian.AppendUint16(labels, uint16(r.Refs))
	}
	owners := make([]byte, size)
	for i, n := range m.Owners {
		owners[i] = byte(n)
	}
	for _, n := range m.Inodes {
		inodes = append(inodes, n.Kind, n.Row)
		for _, k := range ints(n) {
			inodes = binary.LittleEndian.AppendUint16(inodes, uint16(k))
		}
		inodes = append(inodes, make([]byte, 6)...)
	}
	l := [][]byte{labels, owners, slices.Clone(m.Used)}
	for i := 0; i < len(inodes); i += size {
		l = append(l, slices.Clone(inodes[i:i+size]))
	}
	return l
}

// read returns the metadata that the library finds in sectors of the right number and sizes; bytes that are padding are not read.
func read(g api.Geo, l [][]byte) api.Meta {
	m := api.Meta{Used: slices.Clone(l[2])}
	for i := range table {
		b := l[0][4*i:]
		m.Rows = append(m.Rows, api.Row{Label: api.Label(binary.LittleEndian.Uint16(b)), Refs: int(binary.LittleEndian.Uint16(b[2:]))})
	}
	for i := range g.Groups {
		m.Owners = append(m.Owners, int(l[1][i]))
	}
	for i := range g.Inodes {
		b, k := l[3+i/2][32*(i%2):], make([]int, numbers)
		for j := range k {
			k[j] = int(binary.LittleEndian.Uint16(b[2+2*j:]))
		}
		m.Inodes = append(m.Inodes, withInts(api.Inode{Kind: b[0], Row: b[1]}, k))
	}
	return m
}

// found returns the metadata whose sectors are l, and whether there is one.
func found(g api.Geo, l [][]byte) (api.Meta, bool) {
	if !isGeo(g) || len(l) != 3+g.Inodes/2 || slices.ContainsFunc(l, func(b []byte) bool { return len(b) != size }) {
		return api.Meta{}, false
	}
	m := read(g, l)
	return m, isValid(g, m) && sameSectors(spelled(m), l)
}

func same(a, b api.Meta) bool {
	return slices.Equal(a.Rows, b.Rows) && slices.Equal(a.Owners, b.Owners) && bytes.Equal(a.Used, b.Used) && slices.Equal(a.Inodes, b.Inodes)
}

func sameSectors(a, b [][]byte) bool { return slices.EqualFunc(a, b, bytes.Equal) }

func clone(m api.Meta) api.Meta {
	return api.Meta{Rows: slices.Clone(m.Rows), Owners: slices.Clone(m.Owners), Used: slices.Clone(m.Used), Inodes: slices.Clone(m.Inodes)}
}

func cloneSectors(l [][]byte) [][]byte {
	c := slices.Clone(l)
	for i, b := range l {
		c[i] = slices.Clone(b)
	}
	return c
}

// changed returns a copy of m that each of the turns has changed.
func changed(m api.Meta, turns ...func(*api.Meta)) api.Meta {
	m = clone(m)
	for _, turn := range turns {
		turn(&m)
	}
	return m
}

// changedSectors returns a copy of l that turn has changed.
func changedSectors(l [][]byte, turn func([][]byte) [][]byte) [][]byte { return turn(cloneSectors(l)) }

// roomy returns a copy of l behind whose end there is more.
func roomy[E any](l []E, more ...E) []E { return append(slices.Clone(l), more...)[:len(l)] }

// setBit returns a turn that sets bit i to 1.
func setBit(i int) func(*api.Meta) {
	return func(m *api.Meta) { m.Used[i/8] |= 1 << (i % 8) }
}

// empty returns the metadata of an empty disk.
func empty(g api.Geo) api.Meta {
	return api.Meta{Rows: make([]api.Row, table), Owners: make([]int, g.Groups), Used: make([]byte, size), Inodes: make([]api.Inode, g.Inodes)}
}

// full returns metadata in which nothing is free: all rows, all groups, all blocks and all inodes differ from those of an empty disk, and most of them from one another.
func full(g api.Geo) api.Meta {
	m := empty(g)
	for i := range m.Rows {
		m.Rows[i] = api.Row{Label: api.Label(16 + 257*i), Refs: 1 + 300*i}
	}
	for i := range m.Owners {
		m.Owners[i] = 1 + i%table
	}
	for i := range g.Groups * g.PerGroup {
		setBit(i)(&m)
	}
	for i := range m.Inodes {
		n := api.Inode{Kind: uint8(1 + i%2), Row: uint8(15 - i%16), Links: 1 + 1000*i, Size: longest - 60*i, Ind: 500 - i, Dind: i}
		for k := range n.Direct {
			n.Direct[k] = (67*i + 100*k) % (blocks + 1)
		}
		m.Inodes[i] = n
	}
	return m
}

// half returns metadata in which every other row, group, block and inode is free, and one row has the label 0.
func half(g api.Geo) api.Meta {
	m, none := full(g), empty(g)
	for i := range table / 2 {
		m.Rows[2*i] = none.Rows[2*i]
	}
	m.Rows[9].Label = 0
	for i := 0; i < g.Groups; i += 2 {
		m.Owners[i] = 0
	}
	for i := range m.Used {
		m.Used[i] &= 0xaa
	}
	for i := 1; i < g.Inodes; i += 2 {
		m.Inodes[i] = api.Inode{}
	}
	return m
}

// dice returns a function that returns the same numbers below its argument in each run of the tests.
func dice() func(int) int {
	seed := uint32(1)
	return func(n int) int {
		seed = seed*1664525 + 1013904223
		return int(seed>>8) % n
	}
}

// some returns valid metadata of a long sequence, in which each number takes many values, about its bounds and between them.
func some(g api.Geo, count int) []api.Meta {
	var l []api.Meta
	next := dice()
	for range count {
		m := empty(g)
		for i := range m.Rows {
			if next(3) > 0 {
				m.Rows[i] = api.Row{Label: api.Label(i + table*next(4096)), Refs: 1 + next(2)*next(refs)}
			}
		}
		for i := range m.Owners {
			m.Owners[i] = next(table + 1)
		}
		for i := range g.Groups * g.PerGroup {
			if next(2) > 0 {
				setBit(i)(&m)
			}
		}
		for i := range m.Inodes {
			if next(3) == 0 {
				continue
			}
			k := make([]int, numbers)
			for j := range k {
				k[j] = []int{0, limit(j), next(limit(j) + 1)}[next(3)]
			}
			m.Inodes[i] = withInts(api.Inode{Kind: uint8(1 + next(2)), Row: uint8(next(16))}, k)
		}
		l = append(l, m)
	}
	return l
}

// bases are metadata that others are made of.
func bases(g api.Geo) []api.Meta { return []api.Meta{empty(g), full(g), half(g)} }

// valid are metadata for g: with nothing, with all, with each row, owner, bit and inode alone, and with each of them missing.
func valid(g api.Geo) []api.Meta {
	l := append(bases(g), some(g, 40)...)
	all := full(g)
	for i := range table {
		for _, r := range []api.Row{{Label: 0, Refs: 1}, {Label: 65535, Refs: refs}, {Label: 256, Refs: 256}} {
			l = append(l, changed(empty(g), func(m *api.Meta) { m.Rows[i] = r }))
		}
		l = append(l, changed(all, func(m *api.Meta) { m.Rows[i] = api.Row{} }))
	}
	for i := range g.Groups {
		l = append(l, changed(empty(g), func(m *api.Meta) { m.Owners[i] = 1 + i%table }), changed(all, func(m *api.Meta) { m.Owners[i] = 0 }))
	}
	for i := range g.Groups * g.PerGroup {
		l = append(l, changed(empty(g), setBit(i)))
	}
	for i := range g.Inodes {
		l = append(l, changed(empty(g), func(m *api.Meta) { m.Inodes[i] = all.Inodes[i] }), changed(all, func(m *api.Meta) { m.Inodes[i] = api.Inode{} }))
	}
	return l
}

// wrongTables are rows that are not valid, each of them for one reason.
func wrongTables() [][]api.Row {
	all := full(example).Rows
	l := [][]api.Row{nil, {}, make([]api.Row, 1), make([]api.Row, 15), make([]api.Row, 17), make([]api.Row, 32), all[:15], append(slices.Clone(all), api.Row{}), append(slices.Clone(all), api.Row{Label: 1, Refs: 1})}
	put := func(base []api.Row, i int, r api.Row) []api.Row {
		base = slices.Clone(base)
		base[i] = r
		return base
	}
	for _, base := range [][]api.Row{make([]api.Row, table), all} {
		for i := range base {
			for _, n := range append([]int{refs + 2}, far...) {
				l = append(l, put(base, i, api.Row{Label: 3, Refs: n}))
			}
			for _, a := range []api.Label{1, 256, 65535} {
				l = append(l, put(base, i, api.Row{Label: a}))
			}
			for j := range i {
				l = append(l, put(put(base, i, api.Row{Label: 3, Refs: 1}), j, api.Row{Label: 3, Refs: 2}), put(put(base, i, api.Row{Refs: 1}), j, api.Row{Refs: 1}))
			}
		}
	}
	return l
}

// wrongInodes are inodes that are not valid, each of them for one reason.
func wrongInodes() []api.Inode {
	var l []api.Inode
	file, dir := full(example).Inodes[0], full(example).Inodes[1]
	for _, n := range []api.Inode{file, dir, {Kind: 1}, {Kind: 2}, {}} {
		for _, m := range []api.Inode{{Kind: 3}, {Kind: 4}, {Kind: 128}, {Kind: 255}, {Row: 16}, {Row: 17}, {Row: 128}, {Row: 255}} {
			m = withInts(m, ints(n))
			if m.Kind == 0 {
				m.Kind = n.Kind
			}
			l = append(l, m)
		}
		for i := range numbers {
			for _, k := range append([]int{limit(i) + 1}, far...) {
				l = append(l, withInts(n, slices.Replace(ints(n), i, i+1, k)))
			}
			l = append(l, withInts(api.Inode{}, slices.Replace(make([]int, numbers), i, i+1, 1)))
		}
	}
	file.Kind, dir.Kind = 0, 0
	return slices.DeleteFunc(append(l, file, dir, api.Inode{Row: 1}, api.Inode{Row: 15}), isInode)
}

// wrong are metadata that are not valid for g, each of them for one reason.
func wrong(g api.Geo) []api.Meta {
	var l []api.Meta
	for _, m := range bases(g) {
		l = append(l, wrongRows(m)...)
		l = append(l, wrongGroups(m)...)
		l = append(l, wrongBits(g, m)...)
		l = append(l, wrongFiles(m)...)
	}
	return append(l, api.Meta{})
}

func wrongRows(m api.Meta) []api.Meta {
	var l []api.Meta
	for _, rows := range wrongTables() {
		l = append(l, changed(m, func(m *api.Meta) { m.Rows = rows }))
	}
	return l
}

func wrongGroups(m api.Meta) []api.Meta {
	var l []api.Meta
	for i := range m.Owners {
		for _, n := range append([]int{17, 256}, far...) {
			l = append(l, changed(m, func(m *api.Meta) { m.Owners[i] = n }))
		}
	}
	return append(l,
		changed(m, func(m *api.Meta) { m.Owners = nil }),
		changed(m, func(m *api.Meta) { m.Owners = m.Owners[:len(m.Owners)-1] }),
		changed(m, func(m *api.Meta) { m.Owners = append(m.Owners, 0) }),
		changed(m, func(m *api.Meta) { m.Owners = append(m.Owners, 1) }),
		changed(m, func(m *api.Meta) { m.Owners = append(m.Owners, make([]int, 64)...) }))
}

func wrongBits(g api.Geo, m api.Meta) []api.Meta {
	var l []api.Meta
	for i := g.Groups * g.PerGroup; i < 8*size; i++ {
		l = append(l, changed(m, setBit(i)))
	}
	if g.Groups*g.PerGroup < 8*size {
		l = append(l, changed(m, func(m *api.Meta) { m.Used = bytes.Repeat([]byte{255}, size) }))
	}
	return append(l,
		changed(m, func(m *api.Meta) { m.Used = nil }),
		changed(m, func(m *api.Meta) { m.Used = []byte{} }),
		changed(m, func(m *api.Meta) { m.Used = m.Used[:1] }),
		changed(m, func(m *api.Meta) { m.Used = m.Used[:size-1] }),
		changed(m, func(m *api.Meta) { m.Used = append(m.Used, 0) }),
		changed(m, func(m *api.Meta) { m.Used = append(m.Used, 255) }),
		changed(m, func(m *api.Meta) { m.Used = append(m.Used, m.Used...) }))
}

func wrongFiles(m api.Meta) []api.Meta {
	var l []api.Meta
	last := len(m.Inodes) - 1
	for _, n := range wrongInodes() {
		l = append(l, changed(m, func(m *api.Meta) { m.Inodes[0] = n }), changed(m, func(m *api.Meta) { m.Inodes[last] = n }))
	}
	for i := range m.Inodes {
		for _, n := range []api.Inode{{Kind: 3}, {Row: 1}, {Kind: 1, Row: 16}, {Kind: 2, Dind: -1}} {
			l = append(l, changed(m, func(m *api.Meta) { m.Inodes[i] = n }))
		}
	}
	return append(l,
		changed(m, func(m *api.Meta) { m.Inodes = nil }),
		changed(m, func(m *api.Meta) { m.Inodes = m.Inodes[:1] }),
		changed(m, func(m *api.Meta) { m.Inodes = m.Inodes[:last] }),
		changed(m, func(m *api.Meta) { m.Inodes = m.Inodes[:max(last-1, 0)] }),
		changed(m, func(m *api.Meta) { m.Inodes = append(m.Inodes, api.Inode{}) }),
		changed(m, func(m *api.Meta) { m.Inodes = append(m.Inodes, api.Inode{}, api.Inode{}) }),
		changed(m, func(m *api.Meta) { m.Inodes = append(m.Inodes, m.Inodes...) }))
}
