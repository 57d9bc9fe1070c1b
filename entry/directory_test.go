package entry_test

import (
	"bytes"
	"cmp"
	"slices"
	"strings"
	"testing"

	"moat/api"
	"moat/entry"
)

func hasAll(t *testing.T, b []byte, want []api.Entry) {
	t.Helper()
	if l, e := entry.All(b); e != api.OK || !slices.Equal(l, want) {
		t.Errorf("All of %d bytes: got %+v, error %d; want %+v", len(b), l, e, want)
	}
}

func isFound(t *testing.T, b []byte, name string, inode int, want bool) {
	t.Helper()
	if n, is := entry.Find(b, name); n != inode || is != want {
		t.Errorf("Find of %.60q in %d bytes: got %d, %v; want %d, %v", name, len(b), n, is, inode, want)
	}
}

func isAdded(t *testing.T, b []byte, x api.Entry, want []byte, wanted api.Errno) {
	t.Helper()
	if c, e := entry.Add(b, x); e != wanted || !bytes.Equal(c, want) {
		t.Errorf("Add of %.60q, %d to %d bytes: got %v, error %d; want %v, error %d", x.Name, x.Inode, len(b), c, e, want, wanted)
	}
}

func isRemoved(t *testing.T, b []byte, name string, want []byte, wanted api.Errno) {
	t.Helper()
	if c, e := entry.Remove(b, name); e != wanted || !bytes.Equal(c, want) {
		t.Errorf("Remove of %.60q from %d bytes: got %v, error %d; want %v, error %d", name, len(b), c, e, want, wanted)
	}
}

// asTold fails the test if one of the calls with the bytes b, that entry, and its name does not return what the chapter's words say.
func asTold(t *testing.T, b []byte, x api.Entry) {
	t.Helper()
	l, is := tableOf(b)
	if !is {
		noDirectory(t, b, x)
		return
	}
	hasAll(t, b, l.entries())
	inode, there := l.found(x.Name)
	isFound(t, b, x.Name, inode, there)
	m, e := l.added(x)
	isAdded(t, b, x, bytesOf(m), e)
	m, e = l.removed(x.Name)
	isRemoved(t, b, x.Name, bytesOf(m), e)
}

// noDirectory fails the test if one of the calls takes b for a directory.
func noDirectory(t *testing.T, b []byte, x api.Entry) {
	t.Helper()
	if l, e := entry.All(b); e != api.ErrEntry || len(l) != 0 {
		t.Errorf("All of %d bytes: got %+v, error %d; want none, error %d", len(b), l, e, api.ErrEntry)
	}
	isFound(t, b, x.Name, 0, false)
	isAdded(t, b, x, nil, api.ErrEntry)
	isRemoved(t, b, x.Name, nil, api.ErrEntry)
}

// some returns what may be asked of a directory: entries that are in it, others that are not, and wrong ones.
func some(l table) []api.Entry {
	x := []api.Entry{
		{}, {Inode: 1}, {Inode: -1}, {Name: "new"}, {Name: "new", Inode: 63}, {Name: "new", Inode: 64}, {Name: "new", Inode: -1}, {Name: "last", Inode: 5}, {Name: "first", Inode: 6},
		{Name: "."}, {Name: "..", Inode: 64}, {Name: "a/b", Inode: 3}, {Name: "fourteen bytes", Inode: 3}, {Name: "\x00", Inode: 3}, {Name: "...", Inode: 9},
	}
	for _, at := range []int{0, 1, len(l) / 2, len(l) - 2, len(l) - 1} {
		if at < 0 || at >= len(l) {
			continue
		}
		s := l[at].Name
		x = append(x, l[at], api.Entry{Name: s, Inode: 64}, api.Entry{Name: s, Inode: -1}, api.Entry{Name: s + "\x00", Inode: 1}, api.Entry{Name: s + "/"}, api.Entry{Name: strings.ToUpper(s), Inode: 2})
		if s != "" {
			x = append(x, api.Entry{Name: s[1:], Inode: 4}, api.Entry{Name: s[:len(s)-1], Inode: 4})
		}
	}
	return x
}

// sorted returns the entries by their names.
func sorted(l []api.Entry) []api.Entry {
	return slices.SortedFunc(slices.Values(l), func(x, y api.Entry) int { return cmp.Compare(x.Name, y.Name) })
}

// P12.2

func TestAllAndFindOfDirectories(t *testing.T) {
	for _, l := range tables() {
		b := bytesOf(l)
		hasAll(t, b, l.entries())
		for _, x := range l.entries() {
			isFound(t, b, x.Name, x.Inode, true)
		}
		for _, s := range []string{"new", "a", "", ".", "..", "\x00", "/", "fourteen bytes", strings.Repeat("a", 200)} {
			isFound(t, b, s, 0, false)
		}
	}
}

func TestNoBytesAreADirectory(t *testing.T) {
	for _, b := range [][]byte{nil, {}, make([]byte, 0, 100), roomy(nil, spelled("a", 5)...)} {
		hasAll(t, b, nil)
		isFound(t, b, "a", 0, false)
		isFound(t, b, "", 0, false)
		isAdded(t, b, api.Entry{Name: "a", Inode: 5}, spelled("a", 5), api.OK)
		isRemoved(t, b, "a", nil, api.ErrNone)
	}
}

func TestFreeEntriesAreNoEntries(t *testing.T) {
	for n := range most + 1 {
		b := make([]byte, n*size)
		hasAll(t, b, nil)
		isFound(t, b, "", 0, false)
		isFound(t, b, "\x00", 0, false)
		for _, s := range alike(0, 3) {
			isFound(t, b, s, 0, false)
		}
	}
}

// Of each length, and of each number of entries, just those that the chapter names are directories.
func TestDirectoriesOfEachLength(t *testing.T) {
	free, used, late := make([]byte, 5000), bytesOf(filled(312)), append(make([]byte, longest-size), bytesOf(filled(80))...)
	for n := range 4900 {
		want := n%size == 0 && n <= longest
		for _, b := range [][]byte{free, used, late} {
			// A full directory is gone through but seldom, as that takes long.
			if n%size == 0 && n%80 != 0 && n < longest-80 || n >= len(b) {
				continue
			}
			if _, e := entry.All(b[:n]); (e == api.OK) != want {
				t.Errorf("All of %d bytes: error %d", n, e)
			}
		}
	}
	for _, n := range []int{3839, 3841, 3856} {
		noDirectory(t, free[:n], api.Entry{Name: "a"})
		noDirectory(t, used[:n], api.Entry{Name: "a"})
		noDirectory(t, roomy(used[:n], free...), api.Entry{Name: number(1)})
	}
	hasAll(t, free[:3840], nil)
	hasAll(t, used[:3840], filled(most))
}

func TestNoDirectories(t *testing.T) {
	for _, b := range noDirectories() {
		for _, x := range []api.Entry{{Name: "a", Inode: 5}, {Name: number(0)}, {Name: number(2), Inode: 64}, {Name: number(4), Inode: 1}, {Name: "..", Inode: -1}, {}} {
			noDirectory(t, b, x)
		}
	}
}

// A single piece that is neither an entry nor free is enough, wherever it is.
func TestAWrongPieceAnywhere(t *testing.T) {
	for _, n := range []int{1, 2, 6, most} {
		for i := range n {
			for k, p := range wrongPieces() {
				if n == most && (i+k)%19 != 0 {
					continue
				}
				b := bytesOf(filled(n))
				copy(b[i*size:], p)
				noDirectory(t, b, api.Entry{Name: number(n / 2), Inode: 1})
				clear(b)
				copy(b[i*size:], p)
				noDirectory(t, b, api.Entry{Name: "a", Inode: 1})
			}
		}
	}
}

// No name occurs twice, side by side or far apart, with the same inode or another one, whatever is between.
func TestANameTwice(t *testing.T) {
	zeros, nines := alike(0, 21), alike(9, 21)
	tables := []table{filled(20), make(table, 20), filled(20).without(3, 4, 5, 10, 19), tableWith(zeros[:20]), tableWith(nines[:20]).without(0, 7)}
	for i := range 20 {
		for j := range i {
			for _, l := range tables {
				for _, s := range []string{"twice", zeros[20], nines[20]} {
					for _, inodes := range [][2]int{{5, 5}, {5, 6}, {63, 0}} {
						m := l.with(i, api.Entry{Name: s, Inode: inodes[0]}).with(j, api.Entry{Name: s, Inode: inodes[1]})
						noDirectory(t, bytesOf(m), api.Entry{Name: s, Inode: inodes[0]})
					}
				}
			}
		}
	}
	full := filled(most)
	for i := range most {
		for _, j := range []int{0, i - 1, i + 1, i / 2, most - 1} {
			if j < 0 || j >= most || j == i {
				continue
			}
			x := full[j]
			noDirectory(t, bytesOf(full.with(i, x)), x)
			noDirectory(t, bytesOf(full.with(i, api.Entry{Name: x.Name, Inode: 63 - x.Inode})), full[i])
		}
	}
}

// Names that are alike are different names.
func TestNamesThatAreAlike(t *testing.T) {
	for _, l := range []table{
		tableWith([]string{"a", "A", "aa", "aaa", "a ", " a", "a.", ".a", "...", "....", "b"}),
		tableWith([]string{"\xff", "\xff\xff", "\xc3", "\xc3\xa9", "e\xcc\x81", "\xef\xbf\xbd", "\x80", "\xfe"}),
		tableWith([]string{"123456789abcd", "123456789abce", "023456789abcd", "123456789abc", "123456", "789abcd"}),
		{{Name: "a", Inode: 5}, {Name: "b", Inode: 5}, {Name: "c", Inode: 5}},
		tableWith(alike(0, most)), tableWith(alike(255, most)),
	} {
		b := bytesOf(l)
		hasAll(t, b, l)
		for i, x := range l {
			isFound(t, b, x.Name, x.Inode, true)
			isFound(t, bytesOf(l.without(i)), x.Name, 0, false)
		}
	}
}

// likeness is a name in a directory, and another one with the same Bits that begins with it.
type likeness struct{ name, other string }

// likenesses returns such pairs: the other names have one byte more or two, right ones and wrong ones, and up to 13 bytes and more.
func likenesses() []likeness {
	var l []likeness
	for i := range 300 {
		for _, s := range []string{number(i), number(i) + strings.Repeat("z", perName-len(number(i)))} {
			for c := range 256 {
				for _, end := range []string{string([]byte{byte(c)}), string([]byte{0, byte(c)})} {
					if bitsOf(s+end) == bitsOf(s) {
						l = append(l, likeness{s, s + end})
					}
				}
			}
		}
	}
	return l
}

// Neither is a name found whose Bits are those of another one, nor one that differs in bytes 0 at its end.
func TestFindOfTheBitsOfAnotherName(t *testing.T) {
	zeros, valid := 0, 0
	for _, k := range likenesses() {
		l := table{{Name: "head", Inode: 1}, {Name: k.name, Inode: 2}, {Name: "tail", Inode: 3}}
		asTold(t, bytesOf(l), api.Entry{Name: k.other, Inode: 4})
		isFound(t, bytesOf(l), k.name, 2, true)
		if isName(k.other) {
			valid++
			asTold(t, bytesOf(l.with(0, api.Entry{Name: k.other, Inode: 5})), api.Entry{Name: k.name, Inode: 4})
			asTold(t, bytesOf(l.with(2, api.Entry{Name: k.other, Inode: 5})), api.Entry{Name: k.name, Inode: 4})
		}
		if strings.Trim(k.other[len(k.name):], "\x00") == "" {
			zeros++
		}
	}
	if zeros == 0 || valid == 0 {
		t.Errorf("%d names with bytes 0 at their end and %d valid ones have the Bits of another one", zeros, valid)
	}
}

// A search goes on behind free entries, whose Bits are 0, and behind other names with the same Bits.
func TestFindGoesOn(t *testing.T) {
	for _, bits := range []byte{0, 1, 2, 128, 255} {
		all := alike(bits, 12)
		for n := range 10 {
			for _, front := range []table{make(table, n), tableWith(all[:n]), tableWith(all[:n+1]).without(0), append(make(table, n), api.Entry{Name: "other", Inode: 8})} {
				l := append(slices.Clone(front), api.Entry{Name: all[11], Inode: 63}, api.Entry{Name: "behind", Inode: 1})
				asTold(t, bytesOf(l), api.Entry{Name: all[11], Inode: 7})
				asTold(t, bytesOf(l), api.Entry{Name: all[10], Inode: 7})
				asTold(t, bytesOf(l), api.Entry{Name: "", Inode: 7})
			}
		}
	}
}

func TestFindOfWrongNames(t *testing.T) {
	for _, l := range []table{nil, filled(3), make(table, 3), tableWith([]string{"a", "...", "ab", "thirteenbytes"}), tableWith(alike(1, 5)), tableWith(alike(bitsOf("."), 3)), tableWith(alike(bitsOf(".."), 3)), tableWith(alike(bitsOf("/"), 3))} {
		for _, s := range wrongNames() {
			isFound(t, bytesOf(l), s, 0, false)
		}
	}
}

// Each byte of a directory in turn is another one.
func TestDirectoriesWithAnotherByte(t *testing.T) {
	for _, l := range []table{filled(4).without(2), tableWith([]string{"a", "thirteenbytes", "..."})} {
		for i := range len(l) * size {
			for c := range 256 {
				b := bytesOf(l)
				b[i] = byte(c)
				asTold(t, b, api.Entry{Name: l[1].Name, Inode: 5})
			}
		}
	}
}

// pieces are what a directory may consist of, and what it may not.
func pieces() [][]byte {
	twins := alike(bitsOf("a"), 1)
	return [][]byte{make([]byte, size), spelled("a", 1), spelled("a", 2), spelled("b", 1), spelled(twins[0], 3), spelled("..", 1), make([]byte, 15)}
}

// All sequences of up to four pieces are asked all.
func TestEachSequenceOfPieces(t *testing.T) {
	names := []string{"a", "b", alike(bitsOf("a"), 1)[0], "new", "", ".."}
	var walk func(b []byte, n int)
	walk = func(b []byte, n int) {
		for i, s := range names {
			asTold(t, b, api.Entry{Name: s, Inode: i*20 - 1})
			asTold(t, b, api.Entry{Name: s, Inode: i})
		}
		for _, p := range pieces() {
			if n > 0 {
				walk(slices.Concat(b, p), n-1)
			}
		}
	}
	walk(nil, 4)
}

// P12.3

func TestTheChaptersExample(t *testing.T) {
	one, e := entry.Add(nil, api.Entry{Name: "a", Inode: 5})
	two, f := entry.Add(one, api.Entry{Name: "b", Inode: 6})
	if e != api.OK || f != api.OK || !bytes.Equal(two, slices.Concat(spelled("a", 5), spelled("b", 6))) {
		t.Errorf("got %v, errors %d, %d", two, e, f)
	}
	isRemoved(t, two, "a", slices.Concat(make([]byte, size), spelled("b", 6)), api.OK)
	left, _ := entry.Remove(two, "a")
	isRemoved(t, left, "b", nil, api.OK)
}

func TestCallsOfEachDirectory(t *testing.T) {
	for _, l := range tables() {
		for _, x := range some(l) {
			asTold(t, bytesOf(l), x)
		}
	}
}

// Each entry of a directory is asked for, added again, and removed: the first, the last, and those between, with free ones about them or without.
func TestAddAndRemoveOfEachEntry(t *testing.T) {
	for _, l := range []table{filled(1), filled(2), filled(9), filled(40), filled(9).without(0, 1), filled(9).without(7, 8), filled(9).without(3, 5), append(make(table, 5), filled(1)...), append(filled(3), make(table, 3)...), slices.Concat(make(table, 2), filled(2), make(table, 2))} {
		for i := range l {
			asTold(t, bytesOf(l), l[i])
			asTold(t, bytesOf(l.without(i)), l[i])
			for j := range i {
				asTold(t, bytesOf(l.without(j)), l[i])
				asTold(t, bytesOf(l.without(i)), l[j])
			}
		}
	}
}

func TestAddTakesTheFirstFreeEntry(t *testing.T) {
	x := api.Entry{Name: "new", Inode: 9}
	for _, n := range []int{1, 2, 5, 100, most} {
		full := filled(n)
		for i := range n {
			want := bytesOf(full.with(i, x))
			isAdded(t, bytesOf(full.without(i)), x, want, api.OK)
			if i < n-1 {
				isAdded(t, bytesOf(full.without(i, n-1)), x, bytesOf(full.without(n-1).with(i, x)), api.OK)
				isAdded(t, bytesOf(full.without(i, i+1)), x, bytesOf(full.without(i+1).with(i, x)), api.OK)
			}
			// Free entries at the end are kept.
			isAdded(t, bytesOf(make(table, i+1)), x, bytesOf(make(table, i+1).with(0, x)), api.OK)
		}
	}
	for n := range most {
		if l := filled(n); n%10 == 0 || n > most-3 {
			isAdded(t, bytesOf(l), x, bytesOf(append(l, x)), api.OK)
		}
	}
}

func TestAddToAFullDirectory(t *testing.T) {
	x := api.Entry{Name: "new", Inode: 9}
	for _, full := range []table{filled(most), tableWith(alike(3, most)), tableWith(alike(bitsOf("new"), most))} {
		isAdded(t, bytesOf(full), x, nil, api.ErrFull)
		for _, i := range []int{0, 1, 119, 238, 239} {
			isAdded(t, bytesOf(full.without(i)), x, bytesOf(full.with(i, x)), api.OK)
			isAdded(t, bytesOf(full.with(i, x)), x, nil, api.ErrThere)
			isAdded(t, bytesOf(full.with(i, x)), api.Entry{Name: "more", Inode: 0}, nil, api.ErrFull)
		}
	}
	isAdded(t, bytesOf(make(table, most)), x, bytesOf(make(table, most).with(0, x)), api.OK)
	isAdded(t, bytesOf(filled(most-1)), x, bytesOf(append(filled(most-1), x)), api.OK)
}

// Of several errors, Add returns the one that the chapter names first.
func TestAddInTheOrderOfItsErrors(t *testing.T) {
	there := number(3)
	for _, k := range []struct {
		b    []byte
		name string
		n    int
		want api.Errno
	}{
		{[]byte{1}, "..", 64, api.ErrEntry},
		{[]byte{1}, "..", 1, api.ErrEntry},
		{[]byte{1}, "new", 64, api.ErrEntry},
		{bytesOf(filled(most + 1)), "", -1, api.ErrEntry},
		{bytesOf(filled(most + 1)), there, 1, api.ErrEntry},
		{slices.Concat(spelled("a", 5), spelled("a", 5)), "a", 5, api.ErrEntry},
		{slices.Concat(spelled("a", 5), spelled("a", 5)), "/", 64, api.ErrEntry},
		{nil, "..", 64, api.ErrName},
		{nil, "", -1, api.ErrName},
		{bytesOf(filled(5)), "fourteen bytes", 64, api.ErrName},
		{bytesOf(filled(5)), there + "/", -1, api.ErrName},
		{bytesOf(filled(most)), ".", 64, api.ErrName},
		{bytesOf(filled(most)), ".", 1, api.ErrName},
		{bytesOf(filled(5)), there, 64, api.ErrArg},
		{bytesOf(filled(5)), there, -1, api.ErrArg},
		{bytesOf(filled(most)), there, 64, api.ErrArg},
		{bytesOf(filled(most)), "new", 64, api.ErrArg},
		{nil, "new", -1, api.ErrArg},
		{bytesOf(filled(most)), there, 1, api.ErrThere},
		{bytesOf(filled(most)), there, filled(most)[3].Inode, api.ErrThere},
		{bytesOf(filled(5)), there, 1, api.ErrThere},
		{bytesOf(filled(most).without(0)), there, 1, api.ErrThere},
		{bytesOf(filled(most)), "new", 1, api.ErrFull},
	} {
		isAdded(t, k.b, api.Entry{Name: k.name, Inode: k.n}, nil, k.want)
	}
}

func TestAddAndRemoveOfWrongNames(t *testing.T) {
	for _, l := range []table{nil, filled(3), make(table, 2), filled(4).without(1, 3), tableWith(alike(1, 3)), filled(most)} {
		b := bytesOf(l)
		for i, s := range wrongNames() {
			if len(l) == most && i%7 != 0 {
				continue
			}
			isAdded(t, b, api.Entry{Name: s, Inode: 1}, nil, api.ErrName)
			isAdded(t, b, api.Entry{Name: s, Inode: wrongInodes[i%len(wrongInodes)]}, nil, api.ErrName)
			isRemoved(t, b, s, nil, api.ErrNone)
		}
		for _, n := range wrongInodes {
			isAdded(t, b, api.Entry{Name: "new", Inode: n}, nil, api.ErrArg)
		}
	}
}

func TestRemoveTakesFreeEntriesAtTheEndAway(t *testing.T) {
	x := api.Entry{Name: "name", Inode: 9}
	for n := range most {
		// The only entry goes with all that is free, wherever it is.
		l := make(table, n+1).with(n, x)
		isRemoved(t, bytesOf(l), x.Name, nil, api.OK)
		isRemoved(t, bytesOf(make(table, n+1).with(n/2, x)), x.Name, nil, api.OK)
		// With another entry ahead, what is behind that one goes.
		if n > 0 {
			m := l.with(0, api.Entry{Name: "first", Inode: 1})
			isRemoved(t, bytesOf(m), x.Name, spelled("first", 1), api.OK)
			isRemoved(t, bytesOf(m), "first", bytesOf(l), api.OK)
		}
	}
	// Those that were free at the end before go as well, also if the entry that is removed is not the last one.
	isRemoved(t, bytesOf(append(filled(4), make(table, 5)...)), number(1), bytesOf(filled(4).without(1)), api.OK)
	isRemoved(t, bytesOf(append(filled(4), make(table, 5)...)), number(3), bytesOf(filled(3)), api.OK)
	isRemoved(t, bytesOf(append(filled(4), make(table, most-4)...)), number(0), bytesOf(filled(4).without(0)), api.OK)
	isRemoved(t, bytesOf(filled(most)), number(239), bytesOf(filled(239)), api.OK)
	isRemoved(t, bytesOf(filled(most)), number(0), bytesOf(filled(most).without(0)), api.OK)
	isRemoved(t, bytesOf(append(filled(4), make(table, 5)...)), "name", nil, api.ErrNone)
}

// Of two names with the same Bits, the one that is named is added and removed.
func TestAddAndRemoveOfTheSameBits(t *testing.T) {
	for bits := range 256 {
		two := alike(byte(bits), 2)
		for _, s := range [][]string{two, {two[1], two[0]}} {
			l := table{{Name: s[0], Inode: 1}, {Name: s[1], Inode: 2}}
			isAdded(t, bytesOf(l[:1]), l[1], bytesOf(l), api.OK)
			isAdded(t, bytesOf(l), l[1], nil, api.ErrThere)
			isFound(t, bytesOf(l), s[0], 1, true)
			isFound(t, bytesOf(l), s[1], 2, true)
			isRemoved(t, bytesOf(l), s[0], bytesOf(l.without(0)), api.OK)
			isRemoved(t, bytesOf(l), s[1], bytesOf(l[:1]), api.OK)
			isRemoved(t, bytesOf(l[:1]), s[1], nil, api.ErrNone)
		}
	}
}

// Arguments are the caller's own.

func TestNothingBeyondTheEndIsRead(t *testing.T) {
	for _, l := range []table{nil, filled(1), filled(5), filled(5).without(1), filled(most), filled(most).without(239), make(table, 2)} {
		for _, more := range [][]byte{bytesOf(filled(9)), make([]byte, 2*size), bytes.Repeat([]byte{255}, 50), spelled("new", 3)} {
			b := roomy(bytesOf(l), more...)
			for _, x := range []api.Entry{{Name: "new", Inode: 9}, {Name: number(0), Inode: 1}, {Name: number(4), Inode: 64}, {Name: number(7)}} {
				asTold(t, b, x)
			}
		}
	}
	b := bytesOf(filled(5))
	for _, n := range []int{1, 15, 17, 70, 79} {
		noDirectory(t, roomy(b[:n], b[n:]...), api.Entry{Name: number(0)})
	}
}

func TestArgumentsAreNotChanged(t *testing.T) {
	more := bytes.Repeat([]byte{238}, 3*size)
	for _, b := range append(noDirectories()[:30], nil, make([]byte, 2*size), bytesOf(filled(1)), bytesOf(filled(5)), bytesOf(filled(5).without(2, 4)), bytesOf(filled(most)), bytesOf(filled(most).without(7))) {
		for _, x := range []api.Entry{{Name: "new", Inode: 9}, {Name: number(0), Inode: 1}, {Name: number(4), Inode: 1}, {Name: ".."}, {Name: "new", Inode: 64}} {
			c := roomy(b, more...)
			entry.All(c)
			entry.Find(c, x.Name)
			entry.Add(c, x)
			entry.Remove(c, x.Name)
			if !bytes.Equal(c, b) || !bytes.Equal(c[len(c):cap(c)][:len(more)], more) {
				t.Errorf("calls with %+v changed %d bytes", x, len(b))
			}
		}
	}
}

// overwritten writes into all of b, also behind its end.
func overwritten(b []byte) {
	b = b[:cap(b)]
	for i := range b {
		b[i] = 77
	}
}

func TestResultsAreNewMemory(t *testing.T) {
	x := api.Entry{Name: "new", Inode: 9}
	for _, l := range []table{nil, filled(1), filled(5), filled(5).without(1), filled(5).without(4), filled(5).without(0, 3, 4), append(filled(5), make(table, 4)...), filled(most).without(239)} {
		b := roomy(bytesOf(l), make([]byte, 2*size)...)
		added, _ := l.added(x)
		first := append(slices.Clone(l.entries()), x)[0].Name
		removed, e := l.removed(first)
		one, _ := entry.Add(b, x)
		two, _ := entry.Add(b, x)
		three, _ := entry.Remove(b, first)
		four, f := entry.Remove(b, first)
		entries, _ := entry.All(b)
		others, _ := entry.All(b)
		overwritten(one)
		overwritten(three)
		for i := range entries {
			entries[i] = api.Entry{Name: "other", Inode: 77}
		}
		if !bytes.Equal(b, bytesOf(l)) {
			t.Errorf("the directory changed with what was made of it: %v", b)
		}
		overwritten(b)
		if !bytes.Equal(two, bytesOf(added)) || !bytes.Equal(four, bytesOf(removed)) || e != f || !slices.Equal(others, l.entries()) {
			t.Errorf("a result changed with another one, or with the directory: %v, %v, %+v", two, four, others)
		}
		asTold(t, bytesOf(l), x)
	}
}

// P12.4

// chosen returns a number of names to choose from: different ones, such as begin alike, and such as have the same Bits.
func chosen() [][]string {
	var begun []string
	for n := 1; n <= perName; n++ {
		begun = append(begun, strings.Repeat("a", n), strings.Repeat("\xff", n))
	}
	return [][]string{numbered(8), numbered(60), numbered(300), alike(0, 40), alike(5, 260), begun}
}

// What was added is found until it is removed, in long runs of all calls.
func TestLongRuns(t *testing.T) {
	next := dice(124)
	ends, empty := map[api.Errno]int{}, 0
	for k, pool := range chosen() {
		var b []byte
		var l table
		for step := range 3000 {
			// Directories grow and shrink by turns, so that they are empty and full now and then.
			x := api.Entry{Name: pool[next(len(pool))], Inode: next(inodes)}
			c, e, m, f := []byte(nil), api.OK, table(nil), api.OK
			if next(20) < 18-16*(step/1000%2) {
				c, e = entry.Add(b, x)
				m, f = l.added(x)
			} else {
				c, e = entry.Remove(b, x.Name)
				m, f = l.removed(x.Name)
			}
			if ends[f]++; e != f || !bytes.Equal(c, bytesOf(m)) {
				t.Fatalf("run %d, step %d, %+v: got %v, error %d; want %v, error %d", k, step, x, c, e, bytesOf(m), f)
			}
			if e == api.OK {
				b, l = c, m
			}
			if step%50 == 0 {
				allFound(t, b, l, pool)
			}
			if len(l) == 0 {
				empty++
			}
		}
	}
	if ends[api.OK] == 0 || ends[api.ErrThere] == 0 || ends[api.ErrNone] == 0 || ends[api.ErrFull] == 0 || empty == 0 {
		t.Errorf("the runs ended so often with each error: %v, and in an empty directory: %d", ends, empty)
	}
}

// allFound fails the test if one of the names is not found, or is found though it is not there.
func allFound(t *testing.T, b []byte, l table, names []string) {
	t.Helper()
	hasAll(t, b, l.entries())
	for i, s := range names {
		if i < 30 || i%11 == 0 {
			inode, is := l.found(s)
			isFound(t, b, s, inode, is)
		}
	}
}

// A call changes no other entry, whatever it is, and the set of the others stays.
func TestOtherEntriesDoNotChange(t *testing.T) {
	for _, l := range tables() {
		b := bytesOf(l)
		x := api.Entry{Name: "new", Inode: 33}
		if c, e := entry.Add(b, x); e == api.OK {
			n, is := entry.Find(c, x.Name)
			entries, f := entry.All(c)
			if n != 33 || !is || f != api.OK || !slices.Equal(sorted(entries), sorted(append(slices.Clone(l.entries()), x))) {
				t.Errorf("after an Add to %+v: %+v, error %d", l, entries, f)
			}
			d, e := entry.Remove(c, x.Name)
			entries, f = entry.All(d)
			if e != api.OK || f != api.OK || !slices.Equal(entries, l.entries()) {
				t.Errorf("after Add and Remove in %+v: %+v, errors %d, %d", l, entries, e, f)
			}
		} else if e != api.ErrFull {
			t.Errorf("Add to %+v: error %d", l, e)
		}
		for i, x := range l.entries() {
			if i%20 != 0 {
				continue
			}
			c, e := entry.Remove(b, x.Name)
			entries, f := entry.All(c)
			if e != api.OK || f != api.OK || !slices.Equal(entries, slices.Delete(slices.Clone(l.entries()), i, i+1)) {
				t.Errorf("after a Remove of %+v from %+v: %+v, errors %d, %d", x, l, entries, e, f)
			}
			isFound(t, c, x.Name, 0, false)
		}
	}
}

// P12.5

// step is an Add, or a Remove of the same name that must come later.
type step struct {
	x        api.Entry
	isRemove bool
}

// inEachOrder calls visit with each order of the steps in which no name is removed before it is added.
func inEachOrder(steps []step, visit func([]step)) {
	var walk func(done, rest []step)
	walk = func(done, rest []step) {
		if len(rest) == 0 {
			visit(done)
		}
		for i, s := range rest {
			if !s.isRemove || slices.Contains(done, step{s.x, false}) {
				walk(append(slices.Clone(done), s), slices.Delete(slices.Clone(rest), i, i+1))
			}
		}
	}
	walk(nil, steps)
}

// played returns the directory after steps, all of which must be possible.
func played(t *testing.T, b []byte, steps []step) []byte {
	t.Helper()
	for _, s := range steps {
		var e api.Errno
		if s.isRemove {
			b, e = entry.Remove(b, s.x.Name)
		} else {
			b, e = entry.Add(b, s.x)
		}
		if e != api.OK {
			t.Fatalf("%+v of %+v: error %d", s, steps, e)
		}
	}
	return b
}

func TestTheOrderOfCallsDoesNotMatter(t *testing.T) {
	for _, names := range [][]string{{"a", "b", "c", "d", "e"}, alike(0, 5), alike(77, 5), {"a", "aa", "aaa", "\xff", "..."}} {
		l := tableWith(names)
		steps := []step{{l[0], false}, {l[1], false}, {l[2], false}, {l[3], false}, {l[4], false}, {l[1], true}, {l[4], true}}
		want := sorted([]api.Entry{l[0], l[2], l[3]})
		orders := 0
		for _, begin := range []table{nil, make(table, 3), make(table, 2).with(1, api.Entry{Name: "before", Inode: 60})} {
			inEachOrder(steps, func(order []step) {
				orders++
				entries, e := entry.All(played(t, bytesOf(begin), order))
				if e != api.OK || !slices.Equal(sorted(entries), sorted(append(begin.entries(), want...))) {
					t.Errorf("after %+v: %+v, error %d", order, entries, e)
				}
			})
		}
		if orders != 3*1260 {
			t.Errorf("%d orders", orders)
		}
	}
}

// A directory that became full and empty again in many orders has the names that are left, and room for all others.
func TestManyOrdersOfAFullDirectory(t *testing.T) {
	next := dice(125)
	for range 12 {
		l := filled(most)
		order := slices.Clone(l)
		for i := range order {
			j := next(i + 1)
			order[i], order[j] = order[j], order[i]
		}
		var steps []step
		for _, x := range order {
			steps = append(steps, step{x, false})
		}
		var want []api.Entry
		for i, x := range l {
			if i%3 != 0 {
				steps = append(steps, step{x, true})
			} else {
				want = append(want, x)
			}
		}
		entries, e := entry.All(played(t, nil, steps))
		if e != api.OK || !slices.Equal(sorted(entries), sorted(want)) {
			t.Errorf("got %+v, error %d", entries, e)
		}
	}
}

func TestTheSameCallsReturnTheSame(t *testing.T) {
	for _, b := range append(noDirectories(), bytesOf(filled(5)), nil, bytesOf(filled(3).without(1)), make([]byte, 32)) {
		x := api.Entry{Name: number(2), Inode: 9}
		one, e := entry.Add(b, x)
		gone, f := entry.Remove(b, x.Name)
		entry.Add(bytesOf(filled(9)), api.Entry{Name: "other", Inode: 1})
		entry.Remove(bytesOf(filled(9)), number(3))
		entry.Take(spelled("name", 3))
		entry.All([]byte{1})
		other, g := entry.Add(b, x)
		left, h := entry.Remove(b, x.Name)
		if e != g || f != h || !bytes.Equal(one, other) || !bytes.Equal(gone, left) {
			t.Errorf("two calls with %d bytes differ", len(b))
		}
	}
}
