package inode_test

import (
	"bytes"
	"encoding/binary"
	"math"
	"slices"
	"testing"

	"moat/api"
	"moat/inode"
)

const (
	size    = 32    // bytes of an inode
	used    = 26    // bytes of its fields
	sector  = 64    // bytes of a block
	slots   = 32    // pointers of a block
	refs    = 65535 // links at most
	longest = 3840  // bytes of a file at most
	blocks  = 512   // of a disk at most
)

// An inode's numbers, in the order of its bytes: Links, Size, the eight elements of Direct, Ind, and Dind.
const (
	links   = 0
	length  = 1
	first   = 2
	ind     = 10
	dind    = 11
	numbers = 12
)

var (
	file = api.Inode{Kind: 1, Row: 3, Links: 258, Size: 1027, Direct: [8]int{1, 2, 3, 400, 5, 6, 7, 300}, Ind: 9, Dind: 266}
	dir  = api.Inode{Kind: 2, Row: 15, Links: refs, Size: longest, Direct: [8]int{512, 511, 510, 257, 256, 255, 512, 512}, Ind: 512, Dind: 512}
)

// ints returns the numbers of n.
func ints(n api.Inode) []int {
	return append(append([]int{n.Links, n.Size}, n.Direct[:]...), n.Ind, n.Dind)
}

// with returns n with that number.
func with(n api.Inode, number, value int) api.Inode {
	switch number {
	case links:
		n.Links = value
	case length:
		n.Size = value
	case ind:
		n.Ind = value
	case dind:
		n.Dind = value
	default:
		n.Direct[number-first] = value
	}
	return n
}

// limit returns the greatest value of that number.
func limit(number int) int {
	switch number {
	case links:
		return refs
	case length:
		return longest
	}
	return blocks
}

// isValid holds an inode against the chapter's words.
func isValid(n api.Inode) bool {
	for i, k := range ints(n) {
		if k < 0 || k > limit(i) || n.Kind == 0 && k != 0 {
			return false
		}
	}
	return n.Kind < 3 && n.Row < 16 && (n.Kind != 0 || n.Row == 0)
}

// spelled returns the bytes of an inode; each number is cut to two bytes.
func spelled(n api.Inode) []byte {
	b := []byte{n.Kind, n.Row}
	for _, k := range ints(n) {
		b = binary.LittleEndian.AppendUint16(b, uint16(k))
	}
	return append(b, make([]byte, 6)...)
}

// read returns the inode that the library finds in b.
func read(b []byte) api.Inode {
	n := api.Inode{Kind: b[0], Row: b[1]}
	for i := range numbers {
		n = with(n, i, int(binary.LittleEndian.Uint16(b[2+2*i:])))
	}
	return n
}

// isInode reports whether b are the bytes of an inode that is valid.
func isInode(b []byte) bool {
	return len(b) == size && isValid(read(b)) && bytes.Equal(b[used:], make([]byte, size-used))
}

// byteRoom returns a copy of b behind whose end there are the bytes more.
func byteRoom(b []byte, more ...byte) []byte {
	return append(slices.Clone(b), more...)[:len(b)]
}

// intRoom returns a copy of l behind whose end there are the numbers more.
func intRoom(l []int, more ...int) []int {
	return append(slices.Clone(l), more...)[:len(l)]
}

// packed returns numbers in two bytes each, to which they are cut.
func packed(l []int) []byte {
	var b []byte
	for _, n := range l {
		b = binary.LittleEndian.AppendUint16(b, uint16(n))
	}
	return b
}

// counted returns n pointers, most of which differ.
func counted(n int) []int {
	l := make([]int, n)
	for i := range l {
		l[i] = (i*37 + 250) % (blocks + 1)
	}
	return l
}

// put returns a copy of l with n in that place.
func put(l []int, place, n int) []int {
	l = slices.Clone(l)
	l[place] = n
	return l
}

// extremes are far from all limits; most of them are within these if they are cut to fewer bits or have their sign taken away.
var extremes = []int{
	math.MinInt, math.MinInt + 1, math.MinInt + 7, -1<<32 + 1, -1 << 32, -1 << 31, -1<<16 + 1, -1 << 16, -refs, -longest, -blocks, -256, -60, -2, -1,
	1 << 16, 1<<16 + 1, 1<<16 + 7, 1 << 17, 1<<31 - 1, 1 << 31, 1<<31 + 7, 1<<32 - 1, 1 << 32, 1<<32 + 1, 1<<32 + 7, 1 << 48, 1 << 62, math.MaxInt - 1, math.MaxInt,
}

// edges are the values about each limit, and the extremes.
var edges = append([]int{
	0, 1, 2, 8, 127, 128, 255, 256, 257, blocks - 1, blocks, blocks + 1, 1023, 1024, longest - 1, longest, longest + 1, 4095, 4096, 1<<15 - 1, 1 << 15, refs - 1, refs,
}, extremes...)

// valid are inodes: the free one, and one for each kind, each row, and each number about its bounds.
func valid() []api.Inode {
	l := []api.Inode{{}, file, dir}
	for _, n := range []api.Inode{{Kind: 1}, {Kind: 2}, file, dir} {
		for row := range uint8(16) {
			m := n
			m.Row = row
			l = append(l, m)
		}
		for i := range numbers {
			for _, k := range edges {
				if 0 <= k && k <= limit(i) {
					l = append(l, with(n, i, k))
				}
			}
		}
	}
	return l
}

// wrong are inodes that are not valid, each of them for one reason.
func wrong() []api.Inode {
	var l []api.Inode
	for _, n := range []api.Inode{{}, {Kind: 1}, {Kind: 2}, file, dir} {
		for i := range numbers {
			for _, k := range edges {
				if m := with(n, i, k); !isValid(m) {
					l = append(l, m)
				}
			}
		}
		for _, k := range []uint8{3, 4, 5, 127, 128, 129, 254, 255} {
			m := n
			m.Kind = k
			l = append(l, m)
		}
		for _, k := range []uint8{1, 15, 16, 17, 31, 32, 127, 128, 240, 255} {
			if m := n; k > 15 || n.Kind == 0 {
				m.Row = k
				l = append(l, m)
			}
		}
		if m := n; n.Size > 0 {
			m.Kind = 0
			l = append(l, m)
		}
	}
	return l
}

// some returns inodes of a long sequence, in which each field takes many values, about its bounds and between them.
func some(count int) []api.Inode {
	seed := uint32(1)
	next := func(n int) int {
		seed = seed*1664525 + 1013904223
		return int(seed>>8) % n
	}
	var l []api.Inode
	for range count {
		n := api.Inode{Kind: uint8(1 + next(2)), Row: uint8(next(16))}
		for i := range numbers {
			n = with(n, i, next(limit(i)+1))
			if next(4) == 0 {
				n = with(n, i, next(2)*limit(i))
			}
		}
		l = append(l, n)
	}
	return l
}

func isRight(t *testing.T, n api.Inode, want bool) {
	t.Helper()
	if inode.Right(n) != want {
		t.Errorf("Right of %v: got %v", n, !want)
	}
}

func isLaid(t *testing.T, n api.Inode, want []byte) {
	t.Helper()
	if b, e := inode.Lay(n); e != api.OK || !bytes.Equal(b, want) {
		t.Errorf("Lay of %v: got %v, error %d; want %v", n, b, e, want)
	}
}

func notLaid(t *testing.T, n api.Inode) {
	t.Helper()
	if b, e := inode.Lay(n); e != api.ErrArg || len(b) != 0 {
		t.Errorf("Lay of %v: got %v, error %d; want none, error %d", n, b, e, api.ErrArg)
	}
}

func isTaken(t *testing.T, b []byte, want api.Inode) {
	t.Helper()
	if n, e := inode.Take(b); e != api.OK || n != want {
		t.Errorf("Take of %v: got %v, error %d; want %v", b, n, e, want)
	}
}

func isRefused(t *testing.T, b []byte) {
	t.Helper()
	if n, e := inode.Take(b); e != api.ErrInode || n != (api.Inode{}) {
		t.Errorf("Take of %v: got %v, error %d; want none, error %d", b, n, e, api.ErrInode)
	}
}

// takenIfRight fails the test if Take of 32 bytes does not return what the library finds there; it reports whether that is an inode.
func takenIfRight(t *testing.T, b []byte) bool {
	t.Helper()
	if isInode(b) {
		isTaken(t, b, read(b))
		return true
	}
	isRefused(t, b)
	return false
}

func isThere(t *testing.T, block, level, a, b int) {
	t.Helper()
	if l, x, y, e := inode.Where(block); l != level || x != a || y != b || e != api.OK {
		t.Errorf("Where of %d: got %d, %d, %d, error %d; want %d, %d, %d", block, l, x, y, e, level, a, b)
	}
}

func isNowhere(t *testing.T, block int) {
	t.Helper()
	if l, a, b, e := inode.Where(block); l != 0 || a != 0 || b != 0 || e != api.ErrArg {
		t.Errorf("Where of %d: got %d, %d, %d, error %d; want 0, 0, 0, error %d", block, l, a, b, e, api.ErrArg)
	}
}

func needs(t *testing.T, bytes, want int) {
	t.Helper()
	if n := inode.Blocks(bytes); n != want {
		t.Errorf("Blocks of %d: got %d, want %d", bytes, n, want)
	}
}

func arePointers(t *testing.T, b []byte, want []int) {
	t.Helper()
	if l, e := inode.Pointers(b); e != api.OK || !slices.Equal(l, want) {
		t.Errorf("Pointers of %v: got %v, error %d; want %v", b, l, e, want)
	}
}

func noPointers(t *testing.T, b []byte) {
	t.Helper()
	if l, e := inode.Pointers(b); e != api.ErrArg || len(l) != 0 {
		t.Errorf("Pointers of %v: got %v, error %d; want none, error %d", b, l, e, api.ErrArg)
	}
}

func isBlock(t *testing.T, l []int, want []byte) {
	t.Helper()
	if b, e := inode.Block(l); e != api.OK || !bytes.Equal(b, want) {
		t.Errorf("Block of %v: got %v, error %d; want %v", l, b, e, want)
	}
}

func noBlock(t *testing.T, l []int) {
	t.Helper()
	if b, e := inode.Block(l); e != api.ErrArg || len(b) != 0 {
		t.Errorf("Block of %v: got %v, error %d; want none, error %d", l, b, e, api.ErrArg)
	}
}

// The inodes of the tests are what they are said to be.
func TestInodes(t *testing.T) {
	for _, n := range append(valid(), some(1000)...) {
		if !isValid(n) {
			t.Errorf("%v is not valid", n)
		}
	}
	for _, n := range wrong() {
		if isValid(n) {
			t.Errorf("%v is valid", n)
		}
	}
}

// P11.1

func TestRightOfInodes(t *testing.T) {
	for _, n := range append(valid(), some(20000)...) {
		isRight(t, n, true)
	}
	for _, n := range wrong() {
		isRight(t, n, false)
	}
}

// A kind of -1 is one of 255, as a kind has no sign.
func TestRightOfEachKind(t *testing.T) {
	for k := range 256 {
		kind := uint8(k)
		isRight(t, api.Inode{Kind: kind}, k < 3)
		for _, n := range []api.Inode{file, dir} {
			n.Kind = kind
			isRight(t, n, k == 1 || k == 2)
		}
	}
}

func TestRightOfEachRow(t *testing.T) {
	for k := range 256 {
		row := uint8(k)
		isRight(t, api.Inode{Row: row}, k == 0)
		for _, n := range []api.Inode{file, dir, {Kind: 1}, {Kind: 2}} {
			n.Row = row
			isRight(t, n, k < 16)
		}
	}
}

// A free inode has no other field, whatever the value that it would have, and wherever a pointer would be.
func TestRightOfFreeInodes(t *testing.T) {
	isRight(t, api.Inode{}, true)
	for i := range numbers {
		for _, k := range append([]int{3, 64, 100}, edges...) {
			isRight(t, with(api.Inode{}, i, k), k == 0)
			isRight(t, with(api.Inode{Row: 1}, i, k), false)
			for j := range i {
				isRight(t, with(with(api.Inode{}, i, k), j, 1), false)
			}
		}
	}
}

func TestRightOfEachNumber(t *testing.T) {
	for _, n := range []api.Inode{file, dir, {Kind: 1}, {Kind: 2}} {
		for i := range numbers {
			for k := -5000; k <= 5000; k++ {
				isRight(t, with(n, i, k), 0 <= k && k <= limit(i))
			}
			for _, k := range edges {
				isRight(t, with(n, i, k), 0 <= k && k <= limit(i))
			}
		}
		for k := -70000; k <= 140000; k++ {
			isRight(t, with(n, links, k), 0 <= k && k <= refs)
			isRight(t, with(n, length, k), 0 <= k && k <= longest)
		}
	}
}

// Two wrong fields don't make up for one another, and a wrong one is not hidden by a right one.
func TestRightOfEachPairOfNumbers(t *testing.T) {
	for _, n := range []api.Inode{file, {Kind: 2, Row: 15}, {Kind: 3}, {Kind: 1, Row: 16}} {
		for i := range numbers {
			for j := range i {
				for _, k := range edges {
					for _, m := range edges {
						p := with(with(n, i, k), j, m)
						isRight(t, p, isValid(p))
					}
				}
			}
		}
	}
}

// P11.2

func TestKnownBytes(t *testing.T) {
	n := api.Inode{Kind: 1, Row: 15, Links: 258, Size: 772, Direct: [8]int{1, 256, 3, 512, 5, 257, 7, 300}, Ind: 9, Dind: 266}
	b := []byte{1, 15, 2, 1, 4, 3, 1, 0, 0, 1, 3, 0, 0, 2, 5, 0, 1, 1, 7, 0, 44, 1, 9, 0, 10, 1, 0, 0, 0, 0, 0, 0}
	isLaid(t, n, b)
	isTaken(t, b, n)
	b = []byte{2, 0, 255, 255, 0, 15, 0, 2, 0, 2, 0, 2, 0, 2, 0, 2, 0, 2, 0, 2, 0, 2, 0, 2, 0, 2, 0, 0, 0, 0, 0, 0}
	n = api.Inode{Kind: 2, Links: refs, Size: longest, Direct: [8]int{512, 512, 512, 512, 512, 512, 512, 512}, Ind: 512, Dind: 512}
	isLaid(t, n, b)
	isTaken(t, b, n)
	isLaid(t, api.Inode{}, make([]byte, size))
	isTaken(t, make([]byte, size), api.Inode{})
}

func TestLayAndTakeOfInodes(t *testing.T) {
	for _, n := range append(valid(), some(20000)...) {
		isLaid(t, n, spelled(n))
		isTaken(t, spelled(n), n)
	}
}

func TestLayRefusesWrongInodes(t *testing.T) {
	for _, n := range wrong() {
		notLaid(t, n)
	}
}

// Each number in two bytes is once in each place, where only its limit tells.
func TestTakeOfEachNumber(t *testing.T) {
	for _, n := range []api.Inode{file, {Kind: 2}} {
		for i := range numbers {
			b := spelled(n)
			for k := range 1 << 16 {
				b[2+2*i], b[3+2*i] = byte(k), byte(k>>8)
				if k <= limit(i) {
					isTaken(t, b, with(n, i, k))
				} else {
					isRefused(t, b)
				}
			}
		}
	}
	// A free inode has no number but 0.
	for i := range numbers {
		for k := 1; k < 1<<16; k *= 2 {
			isRefused(t, spelled(with(api.Inode{}, i, k)))
			isRefused(t, spelled(with(api.Inode{}, i, k-1+k)))
		}
	}
}

func TestTakeOfEachKindAndRow(t *testing.T) {
	for _, x := range []struct {
		n    api.Inode
		want int
	}{{file, 32}, {dir, 32}, {api.Inode{}, 33}} {
		taken := 0
		for k := range 1 << 16 {
			x.n.Kind, x.n.Row = uint8(k), uint8(k>>8)
			if takenIfRight(t, spelled(x.n)) {
				taken++
			}
		}
		if taken != x.want {
			t.Errorf("of the kinds and rows of %v, %d are taken; want %d", x.n, taken, x.want)
		}
	}
}

// Of all bytes that differ from an inode's in one byte, those of an inode are taken, and the others are refused.
func TestTakeOfAnyOtherByte(t *testing.T) {
	for _, n := range []api.Inode{{}, {Kind: 1}, {Kind: 2}, file, dir} {
		for i := range size {
			refused := 0
			for c := range 256 {
				b := spelled(n)
				b[i] = byte(c)
				if !takenIfRight(t, b) {
					refused++
				}
			}
			isPadding, isLinks := i >= used, i == 2 || i == 3
			// Only a byte of Links may be any byte, and only in an inode that is not free.
			if isPadding && refused != 255 || n.Kind != 0 && isLinks && refused != 0 {
				t.Errorf("of %v, %d bytes %d are refused", n, refused, i)
			}
		}
	}
}

// Also several bytes behind the fields are refused, such as those of two numbers whose sum is 0.
func TestTakeRefusesOtherPadding(t *testing.T) {
	for _, n := range []api.Inode{{}, {Kind: 1}, file, dir} {
		for i := used; i < size; i++ {
			for j := used; j < i; j++ {
				for _, c := range []byte{1, 2, 127, 128, 255} {
					b := spelled(n)
					b[i], b[j] = c, c
					isRefused(t, b)
					b[i] = -c
					isRefused(t, b)
				}
			}
		}
		isRefused(t, append(spelled(n)[:used], 255, 255, 255, 255, 255, 255))
		isRefused(t, append(spelled(n)[:used], 32, 32, 32, 32, 32, 32))
	}
}

func TestTakeRefusesWrongInodes(t *testing.T) {
	for _, n := range wrong() {
		// A number that needs more than two bytes has no bytes of its own, and becomes another one.
		if b := spelled(n); !isValid(read(b)) {
			isRefused(t, b)
		}
	}
	for _, c := range []byte{1, 2, 3, 255} {
		isRefused(t, bytes.Repeat([]byte{c}, size))
	}
}

func TestTakeRefusesOtherLengths(t *testing.T) {
	isRefused(t, nil)
	isRefused(t, []byte{})
	for n := range 200 {
		if n == size {
			continue
		}
		isRefused(t, make([]byte, n))
		isRefused(t, append(spelled(file), make([]byte, 168)...)[:n])
		// Bytes behind the end don't make up for those that are missing.
		isRefused(t, byteRoom(make([]byte, n), make([]byte, 200)...))
	}
	for _, m := range []api.Inode{{}, file, dir} {
		b := spelled(m)
		for n := range size {
			isRefused(t, byteRoom(b[:n], b[n:]...))
			isRefused(t, b[size-n:])
		}
		for _, n := range []int{1, 2, 6, size, 4064, 4065, 4096, 1 << 16} {
			isRefused(t, slices.Concat(b, make([]byte, n)))
			isRefused(t, slices.Concat(make([]byte, n), b))
		}
		isRefused(t, slices.Concat(b, b))
	}
}

// Numbers with their greater byte first, or in another size, are those of another inode, or of none.
func TestTakeOfBytesInAnotherOrder(t *testing.T) {
	isTaken(t, append([]byte{1, 0, 0, 1, 1, 2}, make([]byte, 26)...), api.Inode{Kind: 1, Links: 256, Size: 513})
	isRefused(t, append([]byte{1, 0, 0, 1, 0, 64}, make([]byte, 26)...))
	isRefused(t, append([]byte{0, 1}, make([]byte, 30)...))
	isRefused(t, append([]byte{0, 0, 1}, make([]byte, 29)...))
}

func TestTakeDoesNotReadBeyondTheEnd(t *testing.T) {
	for _, n := range valid() {
		for _, c := range []byte{0, 1, 255} {
			isTaken(t, byteRoom(spelled(n), bytes.Repeat([]byte{c}, 80)...), n)
		}
	}
}

func TestTakeChangesNothing(t *testing.T) {
	more := bytes.Repeat([]byte{238}, 80)
	for _, b := range [][]byte{nil, make([]byte, size), spelled(file), spelled(dir), spelled(file)[:31], make([]byte, 33), bytes.Repeat([]byte{1}, size)} {
		c := byteRoom(b, more...)
		inode.Take(c)
		if !bytes.Equal(c, b) || !bytes.Equal(c[len(c):cap(c)][:len(more)], more) {
			t.Errorf("the bytes became %v, were %v", c[:len(c)+len(more)], b)
		}
	}
}

// An inode that was taken stays as it is when the bytes change.
func TestTakeKeepsNothing(t *testing.T) {
	b := spelled(file)
	n, _ := inode.Take(b)
	copy(b, spelled(dir))
	if n != file {
		t.Errorf("the inode became %v", n)
	}
	isTaken(t, b, dir)
	clear(b)
	isTaken(t, b, api.Inode{})
	isTaken(t, spelled(file), file)
}

func TestLayReturnsNewMemory(t *testing.T) {
	for _, n := range []api.Inode{{}, file, dir} {
		one, _ := inode.Lay(n)
		other, _ := inode.Lay(n)
		one = one[:cap(one)]
		for i := range one {
			one[i] = 77
		}
		if !bytes.Equal(other, spelled(n)) {
			t.Errorf("a result changed with another one: %v", other)
		}
		isLaid(t, n, spelled(n))
		isTaken(t, other, n)
	}
}

// P11.3

func TestWhereOfTheEdges(t *testing.T) {
	isNowhere(t, -1)
	isThere(t, 0, 0, 0, 0)
	isThere(t, 7, 0, 7, 0)
	isThere(t, 8, 1, 0, 0)
	isThere(t, 39, 1, 31, 0)
	isThere(t, 40, 2, 0, 0)
	isThere(t, 59, 2, 0, 19)
	isNowhere(t, 60)
}

func TestWhereOfEachBlock(t *testing.T) {
	for n := range 60 {
		switch {
		case n <= 7:
			isThere(t, n, 0, n, 0)
		case n <= 39:
			isThere(t, n, 1, n-8, 0)
		default:
			isThere(t, n, 2, 0, n-40)
		}
	}
}

func TestWhereOfOtherBlocks(t *testing.T) {
	for n := 60; n < 70000; n++ {
		isNowhere(t, n)
		isNowhere(t, 59-n)
	}
	for n := -60; n < 0; n++ {
		isNowhere(t, n)
	}
	for _, n := range extremes {
		isNowhere(t, n)
	}
	// Each of them is a file's block if it is cut to fewer bits.
	for n := range 60 {
		for _, k := range []int{8, 16, 31, 32, 48, 62} {
			isNowhere(t, 1<<k+n)
			isNowhere(t, -1<<k+n)
		}
		isNowhere(t, math.MinInt+n)
		isNowhere(t, math.MaxInt-n)
	}
}

func TestBlocksOfTheEdges(t *testing.T) {
	for _, x := range [][2]int{
		{-64, 0}, {-1, 0}, {0, 0}, {1, 1}, {2, 1}, {63, 1}, {64, 1}, {65, 2}, {127, 2}, {128, 2}, {129, 3},
		{longest - 64, 59}, {longest - 63, 60}, {longest - 1, 60}, {longest, 60}, {longest + 1, 61}, {4096, 64}, {4097, 65},
		{1<<31 - 1, 1 << 25}, {1 << 31, 1 << 25}, {1<<31 + 1, 1<<25 + 1}, {1 << 32, 1 << 26}, {1<<32 + 1, 1<<26 + 1}, {1 << 62, 1 << 56},
		{math.MaxInt, 1 << 57}, {math.MaxInt - 1, 1 << 57}, {math.MaxInt - 62, 1 << 57}, {math.MaxInt - 63, 1<<57 - 1}, {math.MaxInt - 64, 1<<57 - 1},
	} {
		needs(t, x[0], x[1])
	}
}

// A file of one byte more needs one block more whenever the blocks before it are full.
func TestBlocksOfEachSize(t *testing.T) {
	n := 0
	for bytes := range 100000 {
		needs(t, bytes, n)
		if bytes == 64*n {
			n++
		}
	}
}

func TestBlocksOfNoBytes(t *testing.T) {
	for n := range 100000 {
		needs(t, -n, 0)
	}
	for _, n := range extremes {
		if n < 0 {
			needs(t, n, 0)
		}
	}
	for n := range 200 {
		needs(t, math.MinInt+n, 0)
	}
}

// P11.4

func TestKnownPointers(t *testing.T) {
	l := make([]int, slots)
	l[0], l[1], l[30], l[31] = 258, 1, 512, 511
	b := make([]byte, sector)
	copy(b, []byte{2, 1, 1, 0})
	copy(b[60:], []byte{0, 2, 255, 1})
	isBlock(t, l, b)
	arePointers(t, b, l)
	isBlock(t, make([]int, slots), make([]byte, sector))
	arePointers(t, make([]byte, sector), make([]int, slots))
	all := slices.Repeat([]int{512}, slots)
	isBlock(t, all, bytes.Repeat([]byte{0, 2}, slots))
	arePointers(t, bytes.Repeat([]byte{0, 2}, slots), all)
}

func TestPointersAndBlockOfEachPointer(t *testing.T) {
	for _, l := range [][]int{make([]int, slots), counted(slots), slices.Repeat([]int{512}, slots)} {
		for i := range l {
			for n := range blocks + 1 {
				m := put(l, i, n)
				isBlock(t, m, packed(m))
				arePointers(t, packed(m), m)
			}
		}
	}
}

// Each other number in two bytes is once in each place.
func TestPointersRefusesOtherNumbers(t *testing.T) {
	for i := range slots {
		b := packed(counted(slots))
		for n := blocks + 1; n < 1<<16; n++ {
			b[2*i], b[2*i+1] = byte(n), byte(n>>8)
			noPointers(t, b)
		}
	}
	noPointers(t, bytes.Repeat([]byte{255}, sector))
	noPointers(t, bytes.Repeat([]byte{1, 2}, slots))
	for i := range slots {
		for j := range i {
			noPointers(t, packed(put(put(counted(slots), i, 513), j, 513)))
			noPointers(t, packed(put(put(counted(slots), i, 65535), j, 513)))
		}
	}
}

func TestBlockRefusesOtherNumbers(t *testing.T) {
	for _, l := range [][]int{make([]int, slots), counted(slots)} {
		for i := range l {
			for n := blocks + 1; n < 3000; n++ {
				noBlock(t, put(l, i, n))
				noBlock(t, put(l, i, blocks-n))
			}
			for _, n := range edges {
				if n < 0 || n > blocks {
					noBlock(t, put(l, i, n))
					noBlock(t, put(put(l, i, n), (i+7)%slots, n))
				}
				noBlock(t, put(put(l, i, n), (i+9)%slots, -1))
				noBlock(t, put(put(l, i, n), (i+23)%slots, 513))
			}
		}
	}
	for _, n := range extremes {
		noBlock(t, slices.Repeat([]int{n}, slots))
	}
	noBlock(t, slices.Repeat([]int{-1}, slots))
	noBlock(t, slices.Repeat([]int{513}, slots))
}

func TestPointersRefusesOtherLengths(t *testing.T) {
	noPointers(t, nil)
	noPointers(t, []byte{})
	for n := range 300 {
		if n == sector {
			continue
		}
		b := packed(counted(150))[:n]
		noPointers(t, b)
		noPointers(t, make([]byte, n))
		// Bytes behind the end don't make up for those that are missing.
		noPointers(t, byteRoom(b, make([]byte, 300)...))
	}
	b := packed(counted(slots))
	for _, n := range []int{1, 2, sector, 4032, 4033, 4096, 1 << 16} {
		noPointers(t, slices.Concat(b, make([]byte, n)))
		noPointers(t, slices.Concat(make([]byte, n), b))
	}
}

func TestBlockRefusesOtherLengths(t *testing.T) {
	noBlock(t, nil)
	noBlock(t, []int{})
	for n := range 300 {
		if n == slots {
			continue
		}
		noBlock(t, counted(n))
		noBlock(t, make([]int, n))
		// Pointers behind the end don't make up for those that are missing.
		noBlock(t, intRoom(counted(n), make([]int, 300)...))
	}
	for _, n := range []int{1 << 11, 1<<11 + 1, 1 << 12, 1 << 16} {
		noBlock(t, make([]int, n))
		noBlock(t, append(counted(slots), make([]int, n)...))
	}
}

func TestPointersAndBlockDoNotReadBeyondTheEnd(t *testing.T) {
	l := counted(slots)
	for _, c := range []byte{0, 1, 255} {
		arePointers(t, byteRoom(packed(l), bytes.Repeat([]byte{c}, 80)...), l)
	}
	for _, n := range []int{0, 1, -1, blocks, blocks + 1, math.MaxInt, math.MinInt} {
		isBlock(t, intRoom(l, slices.Repeat([]int{n}, 80)...), packed(l))
	}
}

func TestPointersAndBlockChangeNothing(t *testing.T) {
	more := bytes.Repeat([]byte{238}, 80)
	for _, b := range [][]byte{nil, make([]byte, sector), packed(counted(slots)), packed(counted(31)), packed(counted(33)), bytes.Repeat([]byte{3}, sector)} {
		c := byteRoom(b, more...)
		inode.Pointers(c)
		if !bytes.Equal(c, b) || !bytes.Equal(c[len(c):cap(c)][:len(more)], more) {
			t.Errorf("the bytes became %v, were %v", c[:len(c)+len(more)], b)
		}
	}
	others := slices.Repeat([]int{77}, 80)
	for _, l := range [][]int{nil, make([]int, slots), counted(slots), counted(31), counted(33), put(counted(slots), 31, 513), put(counted(slots), 0, -1)} {
		c := intRoom(l, others...)
		inode.Block(c)
		if !slices.Equal(c, l) || !slices.Equal(c[len(c):cap(c)][:len(others)], others) {
			t.Errorf("the pointers became %v, were %v", c[:len(c)+len(others)], l)
		}
	}
}

func TestPointersReturnsNewMemory(t *testing.T) {
	want := counted(slots)
	b := packed(want)
	one, _ := inode.Pointers(b)
	other, _ := inode.Pointers(b)
	one = one[:cap(one)]
	for i := range one {
		one[i] = 77
	}
	if !slices.Equal(other, want) || !bytes.Equal(b, packed(want)) {
		t.Errorf("a result changed with another one: %v, %v", other, b)
	}
	clear(b)
	if !slices.Equal(other, want) {
		t.Errorf("a result changed with its bytes: %v", other)
	}
	arePointers(t, b, make([]int, slots))
	arePointers(t, packed(want), want)
}

func TestBlockReturnsNewMemory(t *testing.T) {
	l := counted(slots)
	want := packed(l)
	one, _ := inode.Block(l)
	other, _ := inode.Block(l)
	one = one[:cap(one)]
	for i := range one {
		one[i] = 77
	}
	if !bytes.Equal(other, want) || !slices.Equal(l, counted(slots)) {
		t.Errorf("a result changed with another one: %v, %v", other, l)
	}
	clear(l)
	if !bytes.Equal(other, want) {
		t.Errorf("a result changed with its pointers: %v", other)
	}
	isBlock(t, l, make([]byte, sector))
	isBlock(t, counted(slots), want)
}

// P11.5

func TestTakeReturnsWhatLayStored(t *testing.T) {
	for _, n := range append(valid(), some(20000)...) {
		b, e := inode.Lay(n)
		m, f := inode.Take(b)
		if e != api.OK || f != api.OK || m != n {
			t.Errorf("Take of Lay of %v: got %v, errors %d, %d", n, m, e, f)
		}
	}
}

// Different inodes have different bytes, so that these tell the inode.
func TestInodesHaveTheirOwnBytes(t *testing.T) {
	all := map[string]api.Inode{}
	for _, n := range append(valid(), some(20000)...) {
		b, _ := inode.Lay(n)
		if m, is := all[string(b)]; is && m != n {
			t.Errorf("%v and %v have the same bytes", n, m)
		}
		all[string(b)] = n
	}
}

func TestPointersReturnsWhatBlockStored(t *testing.T) {
	for k := range 2000 {
		l := counted(slots)
		for i := range l {
			l[i] = (l[i] + k*(i+1)) % (blocks + 1)
		}
		b, e := inode.Block(l)
		m, f := inode.Pointers(b)
		if e != api.OK || f != api.OK || !slices.Equal(m, l) {
			t.Errorf("Pointers of Block of %v: got %v, errors %d, %d", l, m, e, f)
		}
	}
}

func TestBlocksAreReachedByDifferentPointers(t *testing.T) {
	all := map[[3]int]int{}
	for n := range inode.Blocks(longest) {
		level, a, b, e := inode.Where(n)
		if m, is := all[[3]int{level, a, b}]; is || e != api.OK {
			t.Errorf("the blocks %d and %d are both at %d, %d, %d, error %d", m, n, level, a, b, e)
		}
		all[[3]int{level, a, b}] = n
	}
	if len(all) != 60 {
		t.Errorf("%d blocks are reached", len(all))
	}
}

// follow returns the pointer by which that block of the file is reached, from the bytes of its inode and of the blocks of pointers.
func follow(t *testing.T, n []byte, disk map[int][]byte, block int) int {
	t.Helper()
	m, e := inode.Take(n)
	level, a, b, f := inode.Where(block)
	if e != api.OK || f != api.OK {
		t.Fatalf("errors %d, %d", e, f)
	}
	step := func(pointer, slot int) int {
		l, e := inode.Pointers(disk[pointer])
		if e != api.OK {
			t.Fatalf("the block of pointer %d has no pointers, error %d", pointer, e)
		}
		return l[slot]
	}
	switch level {
	case 0:
		return m.Direct[a]
	case 1:
		return step(m.Ind, a)
	}
	return step(step(m.Dind, a), b)
}

// The greatest file has all its blocks behind its inode, each of them once.
func TestEachBlockOfTheGreatestFileIsFound(t *testing.T) {
	n := api.Inode{Kind: 1, Links: 1, Size: longest, Direct: [8]int{101, 102, 103, 104, 105, 106, 107, 108}, Ind: 500, Dind: 501}
	through, last, outer := make([]int, slots), make([]int, slots), make([]int, slots)
	for i := range slots {
		through[i], last[i] = 109+i, 141+i
	}
	outer[0] = 502
	disk := map[int][]byte{}
	for pointer, l := range map[int][]int{500: through, 501: outer, 502: last} {
		disk[pointer], _ = inode.Block(l)
	}
	b, _ := inode.Lay(n)
	for block := range inode.Blocks(n.Size) {
		if p := follow(t, b, disk, block); p != 101+block {
			t.Errorf("block %d is reached by pointer %d, want %d", block, p, 101+block)
		}
	}
}

func TestTheSameCallsReturnTheSame(t *testing.T) {
	for _, n := range append(wrong(), valid()...) {
		one, e := inode.Lay(n)
		inode.Lay(dir)
		inode.Take(spelled(file))
		inode.Take(nil)
		other, f := inode.Lay(n)
		if e != f || !bytes.Equal(one, other) || inode.Right(n) != (e == api.OK) {
			t.Errorf("two calls for %v differ", n)
		}
	}
	for _, l := range [][]int{nil, counted(slots), make([]int, slots), put(counted(slots), 3, -1)} {
		one, e := inode.Block(l)
		inode.Block(counted(slots))
		inode.Pointers(make([]byte, sector))
		other, f := inode.Block(l)
		if e != f || !bytes.Equal(one, other) {
			t.Errorf("two calls for %v differ", l)
		}
	}
}
