package entry_test

import (
	"bytes"
	"math"
	"slices"
	"strconv"
	"strings"

	"moat/api"
)

const (
	size    = 16   // bytes of an entry
	longest = 3840 // bytes of a directory at most
	most    = 240  // entries of a directory at most
	perName = 13   // bytes of a name at most
	inodes  = 64
)

// bitsOf returns what layer 2 says are the Bits of a name's hash value, in whole numbers.
func bitsOf(name string) byte {
	x, y := 1, 0
	for _, c := range []byte(name) {
		x, y = (3*x-2*y+int(c)+1+2*257)%257, (2*x+3*y+int(c)%7)%257
	}
	return byte(x + 16*y)
}

// isName holds a name against the chapter's words.
func isName(name string) bool {
	for _, c := range []byte(name) {
		if c == 0 || c == '/' {
			return false
		}
	}
	return 1 <= len(name) && len(name) <= 13 && name != "." && name != ".."
}

func isInode(n int) bool { return 0 <= n && n <= 63 }

// spelled returns the bytes that an entry would have, valid or not; what there is no room for is cut.
func spelled(name string, inode int) []byte {
	b := make([]byte, size)
	b[0], b[1], b[2] = byte(len(name)), bitsOf(name), byte(inode)
	copy(b[3:], name)
	return b
}

// read returns the entry whose bytes are b, and whether there is one.
func read(b []byte) (api.Entry, bool) {
	if len(b) != size || b[0] > perName {
		return api.Entry{}, false
	}
	x := api.Entry{Name: string(b[3 : 3+b[0]]), Inode: int(b[2])}
	padding := b[3+b[0]:]
	ok := isName(x.Name) && isInode(x.Inode) && b[1] == bitsOf(x.Name) && bytes.Equal(padding, make([]byte, len(padding)))
	if !ok {
		return api.Entry{}, false
	}
	return x, true
}

// A table is a directory: its entries in order. A free one has no name.
type table []api.Entry

// bytesOf returns the bytes of a table.
func bytesOf(l table) []byte {
	var b []byte
	for _, x := range l {
		if x.Name == "" {
			b = append(b, make([]byte, size)...)
		} else {
			b = append(b, spelled(x.Name, x.Inode)...)
		}
	}
	return b
}

// tableOf holds bytes against the chapter's words; it returns the directory, and whether they are one.
func tableOf(b []byte) (table, bool) {
	var l table
	count := map[string]int{}
	if len(b) > longest {
		return nil, false
	}
	for len(b) > 0 {
		piece := b[:min(size, len(b))]
		b = b[len(piece):]
		x, is := read(piece)
		if !is && !bytes.Equal(piece, make([]byte, size)) {
			return nil, false
		}
		l = append(l, x)
		if count[x.Name]++; is && count[x.Name] > 1 {
			return nil, false
		}
	}
	return l, true
}

// entries returns those of a table that are not free.
func (l table) entries() []api.Entry {
	var used []api.Entry
	for _, x := range l {
		if x.Name != "" {
			used = append(used, x)
		}
	}
	return used
}

// place returns where that name is, -1 if it is nowhere; "" is where the first free entry is.
func (l table) place(name string) int {
	return slices.IndexFunc(l, func(x api.Entry) bool { return x.Name == name })
}

// found returns the inode of a name, and whether there is one.
func (l table) found(name string) (int, bool) {
	if at := l.place(name); at >= 0 && name != "" {
		return l[at].Inode, true
	}
	return 0, false
}

func (l table) added(x api.Entry) (table, api.Errno) {
	if !isName(x.Name) {
		return nil, api.ErrName
	}
	if !isInode(x.Inode) {
		return nil, api.ErrArg
	}
	if l.place(x.Name) >= 0 {
		return nil, api.ErrThere
	}
	m := slices.Clone(l)
	if at := m.place(""); at >= 0 {
		m[at] = x
		return m, api.OK
	}
	if len(m) == most {
		return nil, api.ErrFull
	}
	return append(m, x), api.OK
}

func (l table) removed(name string) (table, api.Errno) {
	if _, is := l.found(name); !is {
		return nil, api.ErrNone
	}
	m := slices.Clone(l)
	m[l.place(name)] = api.Entry{}
	for len(m) > 0 && m[len(m)-1].Name == "" {
		m = m[:len(m)-1]
	}
	return m, api.OK
}

// with returns a copy of l in which that place has the entry x.
func (l table) with(at int, x api.Entry) table {
	m := slices.Clone(l)
	m[at] = x
	return m
}

// without returns a copy of l in which those places are free.
func (l table) without(places ...int) table {
	m := slices.Clone(l)
	for _, at := range places {
		m[at] = api.Entry{}
	}
	return m
}

// number returns one of many names that all differ; their lengths are 2 to 13.
func number(i int) string {
	s := strconv.FormatInt(int64(i), 36)
	return s + "-" + strings.Repeat("x", i*7%(perName-len(s)))
}

// numbered returns n different names.
func numbered(n int) []string {
	l := make([]string, n)
	for i := range l {
		l[i] = number(i)
	}
	return l
}

// alike returns n different names with the same Bits.
func alike(bits byte, n int) []string {
	var l []string
	for i := 0; len(l) < n; i++ {
		if s := number(i); bitsOf(s) == bits {
			l = append(l, s)
		}
	}
	return l
}

// tableWith returns a table of those names, with inodes most of which differ.
func tableWith(names []string) table {
	var l table
	for i, s := range names {
		l = append(l, api.Entry{Name: s, Inode: i * 37 % inodes})
	}
	return l
}

// filled returns a table of n entries.
func filled(n int) table { return tableWith(numbered(n)) }

// tables are directories: of no entries, of few and of many, and with free entries in many places.
func tables() []table {
	l := []table{nil, filled(1), filled(2), filled(3), filled(5), filled(most - 1), filled(most), tableWith(alike(7, 6)), tableWith(alike(0, 6)), tableWith(alike(1, 6)), tableWith(alike(200, most))}
	for _, n := range []int{1, 2, 7, most - 1, most} {
		l = append(l, make(table, n), make(table, n).with(n-1, api.Entry{Name: "last", Inode: 63}), make(table, n).with(0, api.Entry{Name: "first"}))
		l = append(l, filled(n).without(0), filled(n).without(n-1), filled(n).without(n/2), filled(n).without(0, n/2, n-1))
	}
	for _, bits := range []byte{0, 1, 7} {
		l = append(l, tableWith(alike(bits, 6)).without(0), tableWith(alike(bits, 6)).without(2, 3), tableWith(alike(bits, 6)).without(4, 5))
	}
	return l
}

// names are names that are valid: of each length, with bytes of 128 and more, with dots, and with what means 0 or / elsewhere.
func names() []string {
	l := []string{
		"a", "z", "A", "...", "....", ".a", "a.", "..a", "a..", ". ", " .", ".\x80", ".\x01", " ", "a b", "-", "\\", "~", "*", "\n", "0", "\x01", "\x2e\x2e\x2e",
		"\x7f", "\x80", "\xff", "\xaf", "\xff\xff", "\xc0\x80", "\xc0\xaf", "\xe2\x88\x95", "\xef\xbf\xbd", "\xe4\xb8\xad", "\xf0\x9f\x98\x80", "\xed\xa0\x80", "\xc3", "\xe2\x82",
		"\u012f", "\u2f00", "\u2e2e", "twelve bytes", "thirteenbytes", ".............", strings.Repeat("\xff", 13), strings.Repeat("\x01", 13),
	}
	for n := 1; n <= perName; n++ {
		l = append(l, strings.Repeat("n", n), strings.Repeat("\xe9", n))
	}
	for c := 1; c < 256; c++ {
		if c != '/' {
			l = append(l, string([]byte{'b', byte(c)}), string([]byte{byte(c), 'e'}))
		}
	}
	return append(l, numbered(300)...)
}

// shortWrong are names of up to 13 bytes that are not valid, each of them for one reason.
func shortWrong() []string {
	l := []string{"", ".", "..", "/", "\x00", "//", "\x00\x00", "./", "../", "/.", "/..", "a/b", "a\x00b", ".\x00", "..\x00", "\xff/\xff", "\xff\x00\xff"}
	for n := 1; n <= perName; n++ {
		for i := range n {
			for _, c := range []byte{0, '/'} {
				for _, other := range []byte{'a', '.', 255} {
					b := bytes.Repeat([]byte{other}, n)
					b[i] = c
					l = append(l, string(b))
				}
			}
		}
	}
	return l
}

// longWrong are names of more than 13 bytes; some have a right length if that is cut to a byte.
func longWrong() []string {
	l := []string{"fourteen bytes", "/fourteenbytes", "fourteenbytes\x00", strings.Repeat(".", 14)}
	for _, n := range []int{14, 15, 16, 17, 28, 32, 64, 127, 128, 200, 255, 256, 257, 258, 259, 265, 269, 270, 512, 513, 4096, 4097, 65536, 65537, 1 << 20} {
		l = append(l, strings.Repeat("a", n), strings.Repeat("\xff", n), "thirteenbytes"+strings.Repeat("\x00", n-13))
	}
	return l
}

func wrongNames() []string { return append(shortWrong(), longWrong()...) }

// wrongInodes are numbers of no inode; many are one if they are cut to fewer bits or have their sign taken away.
var wrongInodes = []int{
	-1, 64, 65, 127, 128, 191, 192, 255, 256, 257, 261, 319, 320, 511, 512, 1 << 16, 1<<16 + 5, 1<<31 - 1, 1 << 31, 1 << 32, 1<<32 + 5, 1 << 62, math.MaxInt - 1, math.MaxInt,
	-2, -5, -63, -64, -65, -128, -192, -255, -256, -251, -257, -1 << 16, -1 << 31, -1 << 32, -1<<32 + 5, math.MinInt + 5, math.MinInt + 1, math.MinInt,
}

// wrongPieces are bytes of an entry's size that are neither one nor free.
func wrongPieces() [][]byte {
	l := [][]byte{spelled(".", 1), spelled("..", 1), spelled("a/b", 1), spelled("a\x00b", 1), spelled("\x00", 1), spelled("", 0), spelled("", 5), spelled("fourteen bytes", 1), spelled("a", 64), spelled("a", 255), bytes.Repeat([]byte{255}, size), bytes.Repeat([]byte{1}, size)}
	for i := range size {
		b := make([]byte, size)
		b[i] = 1
		c := spelled("name", 9)
		c[i] ^= 128
		l = append(l, b, c)
	}
	return l
}

// noDirectories are bytes that are not a directory.
func noDirectories() [][]byte {
	full, few := bytesOf(filled(most)), bytesOf(filled(5))
	one := spelled("a", 5)
	l := [][]byte{
		one[:1], one[:15], append(slices.Clone(one), 0), append(slices.Clone(one), 1), make([]byte, 1), make([]byte, 15), make([]byte, 17),
		full[:longest-1], append(slices.Clone(full), 0), append(slices.Clone(full), make([]byte, size)...), append(slices.Clone(full), one...), make([]byte, longest+1), make([]byte, longest+size),
		append(make([]byte, longest), one...), bytesOf(filled(most + 1)), bytesOf(filled(most+1).without(0, 100)), bytesOf(filled(300)), make([]byte, 4096), make([]byte, 1<<16),
		slices.Concat(one, one), slices.Concat(one, spelled("a", 6)), slices.Concat(one, few, one), slices.Concat(one, make([]byte, 32), spelled("a", 63)), slices.Concat(make([]byte, 32), few, few), slices.Concat(few, few[:size]), slices.Concat(few, few[64:]),
		slices.Concat(full[:longest-size], full[:size]), slices.Concat(full[size:], full[longest-size:]), slices.Concat(bytesOf(filled(120)), bytesOf(filled(120))),
	}
	for _, p := range wrongPieces() {
		l = append(l, p, slices.Concat(p, few), slices.Concat(few, p), slices.Concat(few[:32], p, few[32:]), slices.Concat(few, make([]byte, size), p), slices.Concat(p, full[size:]), slices.Concat(full[size:], p))
	}
	return l
}

// roomy returns a copy of b behind whose end there are the bytes more.
func roomy(b []byte, more ...byte) []byte {
	return append(slices.Clone(b), more...)[:len(b)]
}

// dice returns a function that returns numbers below n of a long sequence, the same in each run.
func dice(seed uint32) func(n int) int {
	return func(n int) int {
		seed = seed*1664525 + 1013904223
		return int(seed>>8) % n
	}
}
