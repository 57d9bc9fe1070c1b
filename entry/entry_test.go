package entry_test

import (
	"bytes"
	"slices"
	"strings"
	"testing"

	"moat/api"
	"moat/entry"
)

func isRight(t *testing.T, name string, want bool) {
	t.Helper()
	if entry.Right(name) != want {
		t.Errorf("Right of %.60q: got %v", name, !want)
	}
}

func isLaid(t *testing.T, x api.Entry, want []byte) {
	t.Helper()
	if b, e := entry.Lay(x); e != api.OK || !bytes.Equal(b, want) {
		t.Errorf("Lay of %+v: got %v, error %d; want %v", x, b, e, want)
	}
}

func notLaid(t *testing.T, name string, inode int, want api.Errno) {
	t.Helper()
	if b, e := entry.Lay(api.Entry{Name: name, Inode: inode}); e != want || len(b) != 0 {
		t.Errorf("Lay of %.60q, %d: got %v, error %d; want none, error %d", name, inode, b, e, want)
	}
}

func isTaken(t *testing.T, b []byte, want api.Entry) {
	t.Helper()
	if x, is, e := entry.Take(b); x != want || !is || e != api.OK {
		t.Errorf("Take of %v: got %+v, %v, error %d; want %+v", b, x, is, e, want)
	}
}

func isFree(t *testing.T, b []byte) {
	t.Helper()
	if x, is, e := entry.Take(b); x != (api.Entry{}) || is || e != api.OK {
		t.Errorf("Take of %v: got %+v, %v, error %d; want a free entry", b, x, is, e)
	}
}

func isRefused(t *testing.T, b []byte) {
	t.Helper()
	if x, is, e := entry.Take(b); x != (api.Entry{}) || is || e != api.ErrEntry {
		t.Errorf("Take of %d bytes, %v: got %+v, %v, error %d; want none, error %d", len(b), b[:min(len(b), 40)], x, is, e, api.ErrEntry)
	}
}

// takenIfRight fails the test if Take does not return what the chapter's words say of b; it reports whether that is an entry.
func takenIfRight(t *testing.T, b []byte) bool {
	t.Helper()
	x, is := read(b)
	switch {
	case is:
		isTaken(t, b, x)
	case bytes.Equal(b, make([]byte, size)):
		isFree(t, b)
	default:
		isRefused(t, b)
	}
	return is
}

// The names, the tables and the wrong ones of the tests are what they are said to be.
func TestModel(t *testing.T) {
	if b := spelled("a", 5); !bytes.Equal(b, []byte{1, 229, 5, 97, 0, 0, 0, 0, 0, 0, 0, 0, 0, 0, 0, 0}) {
		t.Errorf("a, 5 is spelled %v", b)
	}
	for _, s := range names() {
		if !isName(s) {
			t.Errorf("%q is no name", s)
		}
	}
	for _, s := range wrongNames() {
		if isName(s) {
			t.Errorf("%q is a name", s)
		}
	}
	for _, n := range wrongInodes {
		if isInode(n) {
			t.Errorf("%d is an inode", n)
		}
	}
	for _, p := range wrongPieces() {
		if _, is := read(p); is || len(p) != size || bytes.Equal(p, make([]byte, size)) {
			t.Errorf("%v is an entry, or free", p)
		}
	}
	for _, l := range tables() {
		if m, is := tableOf(bytesOf(l)); !is || !slices.Equal(l, m) {
			t.Errorf("%+v is no directory", l)
		}
	}
	for _, b := range noDirectories() {
		if _, is := tableOf(b); is {
			t.Errorf("%v is a directory", b)
		}
	}
}

// P12.1

func TestRightOfNames(t *testing.T) {
	for _, s := range names() {
		isRight(t, s, true)
	}
	for _, s := range wrongNames() {
		isRight(t, s, false)
	}
}

func TestRightOfEachLength(t *testing.T) {
	for n := range 600 {
		want := 1 <= n && n <= 13
		isRight(t, strings.Repeat("a", n), want)
		isRight(t, strings.Repeat("\xff", n), want)
		isRight(t, strings.Repeat("\u00e9", n), want && n <= 6)
		isRight(t, strings.Repeat(".", n), want && n > 2)
	}
}

// Only the bytes 0 and / may not be in a name, wherever they are, and whatever the others are.
func TestRightOfEachByte(t *testing.T) {
	for n := 1; n <= perName; n++ {
		for i := range n {
			for c := range 256 {
				for _, other := range []byte{'a', '.', 1, 0x80, 0xc3, 0xff} {
					b := bytes.Repeat([]byte{other}, n)
					b[i] = byte(c)
					isRight(t, string(b), isName(string(b)))
				}
			}
		}
	}
}

func TestRightOfEachPairOfBytes(t *testing.T) {
	for c := range 256 {
		for d := range 256 {
			isRight(t, string([]byte{byte(c), byte(d)}), c != 0 && d != 0 && c != '/' && d != '/' && (c != '.' || d != '.'))
		}
	}
}

func TestKnownBytes(t *testing.T) {
	for _, k := range []struct {
		x api.Entry
		b []byte
	}{
		{api.Entry{Name: "a", Inode: 5}, []byte{1, 229, 5, 97, 0, 0, 0, 0, 0, 0, 0, 0, 0, 0, 0, 0}},
		{api.Entry{Name: "ab", Inode: 63}, []byte{2, 161, 63, 97, 98, 0, 0, 0, 0, 0, 0, 0, 0, 0, 0, 0}},
		{api.Entry{Name: "\xff", Inode: 0}, []byte{1, 82, 0, 255, 0, 0, 0, 0, 0, 0, 0, 0, 0, 0, 0, 0}},
	} {
		isLaid(t, k.x, k.b)
		isTaken(t, k.b, k.x)
	}
	b, e := entry.Lay(api.Entry{Name: "thirteenbytes", Inode: 1})
	if want := append([]byte{13, bitsOf("thirteenbytes"), 1}, "thirteenbytes"...); e != api.OK || !bytes.Equal(b, want) {
		t.Errorf("got %v, error %d; want %v", b, e, want)
	}
}

func TestLayAndTakeOfEntries(t *testing.T) {
	for i, s := range names() {
		for _, n := range []int{0, 1, i % inodes, 62, 63} {
			isLaid(t, api.Entry{Name: s, Inode: n}, spelled(s, n))
			isTaken(t, spelled(s, n), api.Entry{Name: s, Inode: n})
		}
	}
}

func TestLayOfEachInode(t *testing.T) {
	for n := -1000; n <= 1000; n++ {
		if isInode(n) {
			isLaid(t, api.Entry{Name: "a", Inode: n}, spelled("a", n))
		} else {
			notLaid(t, "a", n, api.ErrArg)
		}
	}
	for _, s := range []string{"a", "...", "thirteenbytes", "\xff"} {
		for _, n := range wrongInodes {
			notLaid(t, s, n, api.ErrArg)
		}
	}
}

// A wrong name is reported ahead of a wrong number.
func TestLayRefusesWrongNames(t *testing.T) {
	for _, s := range wrongNames() {
		for _, n := range []int{0, 63, -1, 64, wrongInodes[len(wrongInodes)-1]} {
			notLaid(t, s, n, api.ErrName)
		}
	}
	for _, n := range wrongInodes {
		notLaid(t, "", n, api.ErrName)
		notLaid(t, "..", n, api.ErrName)
		notLaid(t, "fourteen bytes", n, api.ErrName)
	}
}

func TestTakeOfAFreeEntry(t *testing.T) {
	isFree(t, make([]byte, size))
	isFree(t, roomy(make([]byte, size), bytes.Repeat([]byte{255}, 40)...))
	// A free entry is one as a whole: a single byte in it is enough for another one.
	for i := range size {
		for c := 1; c < 256; c++ {
			b := make([]byte, size)
			b[i] = byte(c)
			isRefused(t, b)
		}
	}
}

func TestTakeRefusesOtherLengths(t *testing.T) {
	isRefused(t, nil)
	isRefused(t, []byte{})
	for _, b := range [][]byte{make([]byte, 300), append(spelled("a", 5), make([]byte, 284)...), append(spelled("thirteenbytes", 63), make([]byte, 284)...), bytesOf(filled(18)), bytes.Repeat([]byte{255}, 300)} {
		for n := range b {
			if n == size {
				continue
			}
			isRefused(t, b[:n])
			// Bytes behind the end don't make up for those that are missing.
			isRefused(t, roomy(b[:n], b[n:]...))
			isRefused(t, slices.Clip(slices.Clone(b[:n])))
		}
	}
	isRefused(t, make([]byte, longest))
	isRefused(t, append(spelled("a", 5), make([]byte, 1<<16)...))
}

// Of all bytes that differ from an entry's in one byte, those of an entry are taken, and the others are refused.
func TestTakeOfAnyOtherByte(t *testing.T) {
	for _, s := range []string{"a", "ab", "...", "\xff\x80", "name", "twelve bytes", "thirteenbytes"} {
		for i := range size {
			taken := 0
			for c := range 256 {
				b := spelled(s, 9)
				b[i] = byte(c)
				if takenIfRight(t, b) {
					taken++
				}
			}
			isName := 3 <= i && i < 3+len(s)
			switch {
			// Each inode's number may be there, but no other length, no other Bits, and no other padding.
			case i == 2 && taken != inodes, !isName && i != 2 && taken != 1:
				t.Errorf("of %q, %d bytes %d are taken", s, taken, i)
			}
		}
	}
}

// A name of another length is not taken either if its Bits are right, as it ends in a byte 0, or as others follow it.
func TestTakeOfEachLength(t *testing.T) {
	for _, s := range []string{"a", "ab", "..a", "...", "name", "\xff\xff", "twelve bytes", "thirteenbytes"} {
		for n := range 256 {
			b := spelled(s, 9)
			b[0] = byte(n)
			for bits := range 256 {
				b[1] = byte(bits)
				if taken := takenIfRight(t, b); taken != (n == len(s) && byte(bits) == bitsOf(s)) {
					t.Errorf("%q with the length %d and the Bits %d: taken is %v", s, n, bits, taken)
				}
			}
		}
	}
}

func TestTakeRefusesTheBitsOfAnotherName(t *testing.T) {
	for _, s := range names() {
		for c := range 256 {
			b := spelled(s, 5)
			b[1] = byte(c)
			if byte(c) == bitsOf(s) {
				isTaken(t, b, api.Entry{Name: s, Inode: 5})
			} else {
				isRefused(t, b)
			}
		}
	}
}

// Names that are not valid are refused also where length, Bits and padding are theirs.
func TestTakeRefusesWrongNames(t *testing.T) {
	for _, s := range wrongNames() {
		if len(s) == 0 || len(s) > 255 {
			continue
		}
		for _, n := range []int{0, 5, 63, 64} {
			isRefused(t, spelled(s, n))
		}
	}
	for n := range 256 {
		isRefused(t, spelled("..", n))
		if b := spelled("", n); n > 0 {
			isRefused(t, b)
			b[1] = 0
			isRefused(t, b)
		}
	}
}

func TestTakeOfEachInode(t *testing.T) {
	for _, s := range []string{"a", "name", "thirteenbytes"} {
		for n := range 256 {
			if b := spelled(s, n); n < inodes {
				isTaken(t, b, api.Entry{Name: s, Inode: n})
			} else {
				isRefused(t, b)
			}
		}
	}
}

// Also several bytes behind the name are refused, such as those whose sum is 0.
func TestTakeRefusesOtherPadding(t *testing.T) {
	for _, s := range []string{"a", "ab", "a longer one", "12345678901"} {
		for i := 3 + len(s); i < size; i++ {
			for j := 3 + len(s); j < i; j++ {
				for _, c := range []byte{1, 'a', 128, 255} {
					b := spelled(s, 9)
					b[i], b[j] = c, c
					isRefused(t, b)
					b[i] = -c
					isRefused(t, b)
				}
			}
		}
	}
}

func TestTakeOfManyBytes(t *testing.T) {
	next := dice(12)
	for range 20000 {
		b := spelled(number(next(1000)), next(70))
		for range next(3) {
			b[next(size)] = byte(next(256))
		}
		takenIfRight(t, b)
		for i := range b {
			b[i] = byte(next(256))
		}
		takenIfRight(t, b)
		b[0], b[2] = byte(next(16)), byte(next(70))
		takenIfRight(t, b)
	}
}

func TestTakeReturnsWhatLayStored(t *testing.T) {
	for _, s := range names() {
		for n := range inodes {
			x := api.Entry{Name: s, Inode: n}
			b, e := entry.Lay(x)
			y, is, f := entry.Take(b)
			if e != api.OK || f != api.OK || !is || x != y {
				t.Errorf("Take of Lay of %+v: got %+v, %v, errors %d, %d", x, y, is, e, f)
			}
		}
	}
}

func TestLayReturnsNewMemory(t *testing.T) {
	x := api.Entry{Name: "name", Inode: 9}
	one, _ := entry.Lay(x)
	other, _ := entry.Lay(x)
	one = one[:cap(one)]
	for i := range one {
		one[i] = 77
	}
	if !bytes.Equal(other, spelled("name", 9)) {
		t.Errorf("a result changed with another one: %v", other)
	}
	isLaid(t, x, spelled("name", 9))
}

func TestTakeChangesAndKeepsNothing(t *testing.T) {
	more := bytes.Repeat([]byte{238}, 40)
	for _, b := range append(wrongPieces(), nil, make([]byte, size), make([]byte, 15), spelled("name", 9), spelled("thirteenbytes", 9), spelled("name", 9)[:15]) {
		c := roomy(b, more...)
		entry.Take(c)
		if !bytes.Equal(c, b) || !bytes.Equal(c[len(c):cap(c)][:len(more)], more) {
			t.Errorf("the bytes became %v, were %v", c[:len(c)+len(more)], b)
		}
	}
	b := spelled("name", 9)
	x, _, _ := entry.Take(b)
	for i := range b {
		b[i] = 'x'
	}
	if x != (api.Entry{Name: "name", Inode: 9}) {
		t.Errorf("an entry changed with its bytes: %+v", x)
	}
}
