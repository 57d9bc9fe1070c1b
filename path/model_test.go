package path_test

import (
	"bytes"
	"slices"
	"strconv"
	"strings"
)

const (
	most    = 16  // names of a path at most
	perName = 13  // bytes of a name at most
	longest = 224 // bytes of a path at most: 16 names of 13 bytes, and a slash ahead of each
)

// isName holds a name against the words of the chapter on entries.
func isName(name string) bool {
	for _, c := range []byte(name) {
		if c == 0 || c == '/' {
			return false
		}
	}
	return 1 <= len(name) && len(name) <= 13 && name != "." && name != ".."
}

// spelled returns each name with a slash ahead of it, whatever the names are.
func spelled(l ...string) string {
	var b []byte
	for _, name := range l {
		b = append(append(b, '/'), name...)
	}
	return string(b)
}

// namesOf returns the names of s, which it cuts at each slash, and whether s is a path.
func namesOf(s string) ([]string, bool) {
	if s == "/" {
		return nil, true
	}
	l := strings.Split(s, "/")
	if l[0] != "" || !isList(l[1:]) || len(l) == 1 {
		return nil, false
	}
	return l[1:], true
}

func isPath(s string) bool {
	_, is := namesOf(s)
	return is
}

// isList reports whether there are at most 16 names, and all of them are valid.
func isList(l []string) bool {
	for _, name := range l {
		if !isName(name) {
			return false
		}
	}
	return len(l) <= 16
}

// joined returns the path with those names, and whether there is one.
func joined(l []string) (string, bool) {
	switch {
	case !isList(l):
		return "", false
	case len(l) == 0:
		return "/", true
	}
	return spelled(l...), true
}

// divided returns what is ahead of the last slash of the path s, and what is behind it; and whether s is a path with a name.
func divided(s string) (string, string, bool) {
	if !isPath(s) || s == "/" {
		return "", "", false
	}
	i := strings.LastIndex(s, "/")
	return s[:max(i, 1)], s[i+1:], true
}

// isUnder reports whether both are paths, and s goes on behind t with another name, or with nothing.
func isUnder(s, t string) bool {
	return isPath(s) && isPath(t) && (s == t || t == "/" || strings.HasPrefix(s, t+"/"))
}

// numbered returns n different names of 1 to 13 bytes.
func numbered(n int) []string {
	l := make([]string, n)
	for i := range l {
		s := strconv.FormatInt(int64(i), 36)
		l[i] = s + strings.Repeat("-", i*7%(perName+1-len(s)))
	}
	return l
}

// with returns a copy of l in which that place has another name.
func with(l []string, at int, name string) []string {
	m := slices.Clone(l)
	m[at] = name
	return m
}

// names are names that are valid: of each length, with bytes of 128 and more, with dots, and with what means 0 or / elsewhere.
func names() []string {
	l := []string{
		"a", "Z", "...", "....", ".a", "a.", "..a", "a..", "a.b", ".a.", ". ", " .", ".\x80", " ", "  ", "a b", "-", "\\", "\\0", "%2f", "~", "*", "\n", "0", "\x01",
		"\x7f", "\x80", "\xff", "\xaf", "\xae", "\xff\xff", "\xc0\x80", "\xc0\xaf", "\xc0\xae", "\xe2\x88\x95", "\xef\xbf\xbd", "\xef\xbc\x8f", "\xf0\x9f\x98\x80", "\xed\xa0\x80", "\xc3", "\xe2\x82",
		"\u012f", "\u2f00", "\u2e2e", "\u00e9", "e\u0301", "twelve bytes", "thirteenbytes", strings.Repeat(".", 12), strings.Repeat(".", 13), strings.Repeat("\xff", 13), strings.Repeat("\x01", 13),
	}
	for n := 1; n <= perName; n++ {
		l = append(l, strings.Repeat("n", n), strings.Repeat("\xe9", n))
	}
	return append(l, numbered(40)...)
}

// wrongNames are names that are not valid. None of them has a slash, so that nothing else is wrong in a path.
func wrongNames() []string {
	l := []string{"", ".", "..", "\x00", "\x00\x00", ".\x00", "..\x00", "\x00.", "a\x00", "\x00a", "a\x00b", "\xff\x00", "fourteen bytes", "..............", "thirteenbytes\x00", "\x00thirteenbytes"}
	for _, n := range []int{14, 15, 16, 17, 26, 27, 128, 200, 255, 256, 257, 269, 512, 65536, 65537} {
		l = append(l, strings.Repeat("a", n), strings.Repeat("\xff", n), strings.Repeat(".", n))
	}
	for i := range perName {
		b := bytes.Repeat([]byte{'a'}, perName)
		b[i] = 0
		l = append(l, string(b))
	}
	return l
}

// lists are lists of valid names: each number of them, and each name as the first one, in the middle, as the last one, and as the sixteenth.
func lists() [][]string {
	l := [][]string{nil, {}}
	for n := 1; n <= most; n++ {
		l = append(l, numbered(n), slices.Repeat([]string{"a"}, n), slices.Repeat([]string{"..."}, n), slices.Repeat([]string{"thirteenbytes"}, n), slices.Repeat([]string{"\xff"}, n))
	}
	for _, name := range names() {
		l = append(l, []string{name}, []string{name, name})
		for _, n := range []int{3, most} {
			for _, at := range []int{0, n / 2, n - 1} {
				l = append(l, with(numbered(n), at, name))
			}
		}
	}
	return l
}

// wrongLists are lists that are no path's, each for one reason: they have too many names, or one that is not valid.
func wrongLists() [][]string {
	var l [][]string
	for _, n := range []int{17, 18, 31, 32, 33, 64, 255, 256, 257, 272, 65536, 65537} {
		l = append(l, numbered(n), slices.Repeat([]string{"a"}, n), slices.Repeat([]string{"thirteenbytes"}, n))
	}
	for _, name := range wrongNames() {
		for _, n := range []int{1, 2, 3, 15, most} {
			for _, at := range []int{0, n / 2, n - 1} {
				l = append(l, with(numbered(n), at, name))
			}
		}
	}
	return l
}

// paths returns the paths of all lists.
func paths() []string {
	l := []string{"/"}
	for _, names := range lists() {
		if len(names) > 0 {
			l = append(l, spelled(names...))
		}
	}
	return l
}

// noPaths are strings that are not paths.
func noPaths() []string {
	l := []string{"", "//", "///", "////", ".", "..", "./", "../", "/.", "/..", "/./", "/../", "/./a", "/../a", "/a/.", "/a/..", "a", "a/", "a/b", "a//", "~", "\\", "\\a", " /", " /a", "/\x00", "\x00", "\x00/", "\x00/a", "\xff", "\xff/a", "\ufeff/a", "\uff0fa"}
	for _, names := range wrongLists() {
		// An empty name alone is spelled as no names are.
		if s := spelled(names...); s != "/" {
			l = append(l, s)
		}
	}
	for _, n := range []int{1, 2, 3, 15, most} {
		s := spelled(numbered(n)...)
		l = append(l, s+"/", s+"//", "/"+s, "//"+s, s[1:], s[1:]+"/", s+"/.", s+"/..", s+"\x00", "\x00"+s, s+"/\x00", "."+s, ".."+s, " "+s, "a"+s)
		// Two slashes are side by side at each place in turn.
		for i := range s {
			if s[i] == '/' {
				l = append(l, s[:i]+"/"+s[i:])
			}
		}
	}
	return append(l, strings.Repeat("/", most+1), strings.Repeat("/", 1<<16), strings.Repeat("a", 1<<16), strings.Repeat("/a", 1<<15), "/"+strings.Repeat("a/", most))
}

// related are paths that lie under one another, or nearly do: they part at the first, a middle and the last name, or in the middle of one.
func related() []string {
	l := []string{"/", "/a", "/b", "/ab", "/aa", "/a/a", "/a/b", "/b/a", "/b/b", "/a/ab", "/ab/a", "/a/b/c", "/a/c/b", "/c/a/b", "/b/b/c", "/a/b/cd", "/a/bc/c", "/ab/b/c", "/...", "/.../a", "/..a", "/a./b", "/\xff", "/\xff\xff", "/\xff/a", "/\xc3\xa9", "/\xc3"}
	long := numbered(most)
	for n := 1; n <= most; n++ {
		l = append(l, spelled(long[:n]...), spelled(long[most-n:]...), spelled(slices.Repeat([]string{"a"}, n)...))
	}
	for _, at := range []int{0, 1, 7, 14, 15} {
		l = append(l, spelled(with(long, at, "other")...), spelled(with(long, at, long[at][:1]+"+")...), spelled(with(long, at, "x")[:at+1]...))
	}
	return l
}

// sequences calls visit with each sequence of up to n of the pieces.
func sequences(pieces []string, n int, visit func([]string)) {
	var walk func(l []string)
	walk = func(l []string) {
		visit(slices.Clone(l))
		if len(l) == n {
			return
		}
		for _, p := range pieces {
			walk(append(slices.Clone(l), p))
		}
	}
	walk(nil)
}

// roomy returns a copy of l behind whose end there are the names more.
func roomy(l []string, more ...string) []string {
	return append(slices.Clone(l), more...)[:len(l)]
}

// dice returns a function that returns numbers below n of a long sequence, the same in each run.
func dice(seed uint32) func(n int) int {
	return func(n int) int {
		seed = seed*1664525 + 1013904223
		return int(seed>>8) % n
	}
}
