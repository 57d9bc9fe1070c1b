package path_test

import (
	"slices"
	"strings"
	"testing"

	"moat/api"
	"moat/path"
)

func isParsed(t *testing.T, s string, want ...string) {
	t.Helper()
	if l, e := path.Parse(s); e != api.OK || !slices.Equal(l, want) {
		t.Errorf("Parse of %.300q: got %.300q, error %d; want %q", s, l, e, want)
	}
}

func notParsed(t *testing.T, s string) {
	t.Helper()
	if l, e := path.Parse(s); e != api.ErrPath || len(l) != 0 {
		t.Errorf("Parse of %d bytes, %.300q: got %.300q, error %d; want none, error %d", len(s), s, l, e, api.ErrPath)
	}
}

func isJoined(t *testing.T, l []string, want string) {
	t.Helper()
	if s, e := path.Join(l); e != api.OK || s != want {
		t.Errorf("Join of %.300q: got %.300q, error %d; want %q", l, s, e, want)
	}
}

func notJoined(t *testing.T, l []string) {
	t.Helper()
	if s, e := path.Join(l); e != api.ErrPath || s != "" {
		t.Errorf("Join of %d names, %.20q: got %.300q, error %d; want none, error %d", len(l), l[:min(len(l), 20)], s, e, api.ErrPath)
	}
}

func isSplit(t *testing.T, s, dir, name string) {
	t.Helper()
	if d, n, e := path.Split(s); e != api.OK || d != dir || n != name {
		t.Errorf("Split of %.300q: got %.300q, %.300q, error %d; want %q, %q", s, d, n, e, dir, name)
	}
}

func notSplit(t *testing.T, s string) {
	t.Helper()
	if d, n, e := path.Split(s); e != api.ErrPath || d != "" || n != "" {
		t.Errorf("Split of %d bytes, %.300q: got %.300q, %.300q, error %d; want none, error %d", len(s), s, d, n, e, api.ErrPath)
	}
}

func under(t *testing.T, s, u string, want bool) {
	t.Helper()
	if path.Under(s, u) != want {
		t.Errorf("Under of %.300q and %.300q: got %v", s, u, !want)
	}
}

// asTold fails the test if Parse or Split of s does not return what the chapter's words say.
func asTold(t *testing.T, s string) {
	t.Helper()
	if l, is := namesOf(s); is {
		isParsed(t, s, l...)
	} else {
		notParsed(t, s)
	}
	if dir, name, is := divided(s); is {
		isSplit(t, s, dir, name)
	} else {
		notSplit(t, s)
	}
}

// joinedAsTold fails the test if Join of l does not return what the chapter's words say.
func joinedAsTold(t *testing.T, l []string) {
	t.Helper()
	if s, is := joined(l); is {
		isJoined(t, l, s)
	} else {
		notJoined(t, l)
	}
}

// The names, the lists, the paths and the wrong ones of the tests are what they are said to be.
func TestModel(t *testing.T) {
	for _, s := range names() {
		if !isName(s) {
			t.Errorf("%q is no name", s)
		}
	}
	for _, s := range wrongNames() {
		if isName(s) || strings.Contains(s, "/") {
			t.Errorf("%q is a name, or has a slash", s)
		}
	}
	for _, l := range lists() {
		if !isList(l) {
			t.Errorf("%q are no path's names", l)
		}
	}
	for _, l := range wrongLists() {
		if isList(l) {
			t.Errorf("%q are a path's names", l)
		}
	}
	for _, s := range slices.Concat(paths(), related()) {
		if !isPath(s) {
			t.Errorf("%q is no path", s)
		}
	}
	for _, s := range noPaths() {
		if isPath(s) {
			t.Errorf("%q is a path", s)
		}
	}
	if s := spelled(slices.Repeat([]string{"thirteenbytes"}, most)...); len(s) != longest || !isPath(s) {
		t.Errorf("%q has %d bytes", s, len(s))
	}
}

// P13.1: Parse

func TestTheChaptersExamplesOfParse(t *testing.T) {
	isParsed(t, "/a/bc", "a", "bc")
	for _, s := range []string{"a", "/a/", "//a", "/.."} {
		notParsed(t, s)
	}
}

func TestParseOfKnownPaths(t *testing.T) {
	isParsed(t, "/")
	isParsed(t, "/a", "a")
	isParsed(t, "/a/b/c/d", "a", "b", "c", "d")
	isParsed(t, "/a/a/a", "a", "a", "a")
	isParsed(t, "/.../..a/a../.b", "...", "..a", "a..", ".b")
	isParsed(t, "/ / x y/\\", " ", " x y", "\\")
	isParsed(t, "/\xff\xfe/\x80/\xc3\xa9", "\xff\xfe", "\x80", "\xc3\xa9")
	isParsed(t, "/thirteenbytes/a", "thirteenbytes", "a")
	isParsed(t, "/0/1/2/3/4/5/6/7/8/9/a/b/c/d/e/f", "0", "1", "2", "3", "4", "5", "6", "7", "8", "9", "a", "b", "c", "d", "e", "f")
}

func TestParseOfPaths(t *testing.T) {
	for _, l := range lists() {
		if len(l) > 0 {
			isParsed(t, spelled(l...), l...)
		}
	}
}

func TestParseRefusesWhatIsNoPath(t *testing.T) {
	for _, s := range noPaths() {
		notParsed(t, s)
	}
}

// Only a single slash is a path without names.
func TestParseOfSlashes(t *testing.T) {
	for n := range 100 {
		if s := strings.Repeat("/", n); n == 1 {
			isParsed(t, s)
		} else {
			notParsed(t, s)
		}
	}
}

func TestParseOfEachNumberOfNames(t *testing.T) {
	for n := 1; n <= 300; n++ {
		for _, l := range [][]string{numbered(n), slices.Repeat([]string{"a"}, n), slices.Repeat([]string{"thirteenbytes"}, n)} {
			if n <= 16 {
				isParsed(t, spelled(l...), l...)
			} else {
				notParsed(t, spelled(l...))
			}
			notParsed(t, spelled(l...)+"/")
			notParsed(t, spelled(l...)[1:])
		}
	}
}

// A name has 1 to 13 bytes, as the first one, in the middle, as the last one, and as the sixteenth.
func TestParseOfEachLengthOfAName(t *testing.T) {
	for n := range 301 {
		for _, c := range []string{"a", "\xff", "."} {
			name := strings.Repeat(c, n)
			for _, k := range []int{1, 2, 3, 15, most} {
				for _, at := range []int{0, k / 2, k - 1} {
					l := with(numbered(k), at, name)
					switch {
					case n == 0 && k == 1:
						isParsed(t, spelled(l...))
					case 1 <= n && n <= 13 && !(c == "." && n < 3):
						isParsed(t, spelled(l...), l...)
					default:
						notParsed(t, spelled(l...))
					}
				}
			}
		}
	}
}

// Dots alone are names if there are three, and a byte 0 is in none, at each place of a path.
func TestParseOfDotsAndZerosAtEachPlace(t *testing.T) {
	for n := 1; n <= most; n++ {
		for at := range n {
			for _, name := range []string{"...", "....", ".a", "a.", "..a", "a..", ".\x01", "\x80."} {
				l := with(numbered(n), at, name)
				isParsed(t, spelled(l...), l...)
			}
			for _, name := range []string{".", "..", "\x00", ".\x00", "\x00.", "a\x00", "\x00a", "a\x00b"} {
				notParsed(t, spelled(with(numbered(n), at, name)...))
			}
		}
	}
}

func TestParseOfTheLongestPath(t *testing.T) {
	l := slices.Repeat([]string{"thirteenbytes"}, most)
	s := spelled(l...)
	isParsed(t, s, l...)
	// There is no place for one byte more.
	for i := range len(s) + 1 {
		for _, c := range []string{"a", ".", "\xff", "\x00"} {
			notParsed(t, s[:i]+c+s[i:])
		}
	}
	// A slash more either divides a name, so that there are 17, or is beside another one.
	for i := range len(s) + 1 {
		notParsed(t, s[:i]+"/"+s[i:])
	}
}

// Each byte in turn is another one, and is put ahead of each byte.
func TestParseAndSplitOfEachByte(t *testing.T) {
	for _, s := range []string{"/", "/a", "/.", "/..", "/...", "/ab/cd/e", "/a/./b", "/thirteenbytes", "/twelve bytes/.a/a.", spelled(numbered(15)...), spelled(numbered(most)...)} {
		for i := range len(s) + 1 {
			for c := range 256 {
				asTold(t, s[:i]+string([]byte{byte(c)})+s[i:])
				if i < len(s) {
					asTold(t, s[:i]+string([]byte{byte(c)})+s[i+1:])
				}
			}
		}
	}
}

// All strings of up to eight of these bytes are parsed and split.
func TestParseAndSplitOfAllShortStrings(t *testing.T) {
	sequences([]string{"/", ".", "a", "\x00"}, 8, func(l []string) { asTold(t, strings.Join(l, "")) })
	sequences([]string{"/", ".", "\xff"}, 9, func(l []string) { asTold(t, strings.Join(l, "")) })
}

// Longer strings are parsed and split, whose pieces are slashes and names, valid or not.
func TestParseAndSplitOfManyStrings(t *testing.T) {
	next := dice(13)
	some, wrong, right := names(), wrongNames(), 0
	for range 30000 {
		n := next(19)
		s := ""
		for range n {
			switch k := next(100); {
			case k < 1:
				s += "/" + wrong[next(len(wrong))]
			case k < 2:
				s += "//" + some[next(len(some))]
			case k < 3:
				s += some[next(len(some))]
			default:
				s += "/" + some[next(len(some))]
			}
		}
		if next(20) == 0 {
			s += "/"
		}
		asTold(t, s)
		if isPath(s) {
			right++
		}
	}
	if right < 10000 || right > 25000 {
		t.Errorf("%d of 30000 strings are paths", right)
	}
}

// P13.1: Join

func TestJoinOfKnownNames(t *testing.T) {
	isJoined(t, nil, "/")
	isJoined(t, []string{}, "/")
	isJoined(t, []string{"a"}, "/a")
	isJoined(t, []string{"a", "bc"}, "/a/bc")
	isJoined(t, []string{"a", "a", "a"}, "/a/a/a")
	isJoined(t, []string{"...", " ", "\xff\x80"}, "/.../ /\xff\x80")
	isJoined(t, strings.Split("0123456789abcdef", ""), "/0/1/2/3/4/5/6/7/8/9/a/b/c/d/e/f")
	notJoined(t, strings.Split("0123456789abcdefg", ""))
}

func TestJoinOfLists(t *testing.T) {
	for _, l := range lists() {
		if len(l) > 0 {
			isJoined(t, l, spelled(l...))
		}
	}
	for _, l := range wrongLists() {
		notJoined(t, l)
	}
}

func TestJoinOfEachNumberOfNames(t *testing.T) {
	for n := 1; n <= 300; n++ {
		for _, l := range [][]string{numbered(n), slices.Repeat([]string{"a"}, n), slices.Repeat([]string{"thirteenbytes"}, n)} {
			if n <= 16 {
				isJoined(t, l, spelled(l...))
			} else {
				notJoined(t, l)
			}
		}
		notJoined(t, make([]string, n))
		notJoined(t, append(numbered(n), ""))
		notJoined(t, append([]string{""}, numbered(n)...))
	}
}

// A name with a slash is no name, also where the parts beside it are names.
func TestJoinRefusesSlashes(t *testing.T) {
	for _, name := range []string{"/", "//", "a/b", "/a", "a/", "/a/b", "./", "../", "/.", "/..", "a//b", "\xff/", "/\x00"} {
		for _, n := range []int{1, 2, 3, 15, most, most + 1} {
			for at := range n {
				notJoined(t, with(numbered(n), at, name))
			}
		}
	}
	for _, s := range paths() {
		notJoined(t, []string{s})
		notJoined(t, []string{"a", s})
		if s != "/" {
			// Without the slash ahead, one name is left, or a list of them in one string.
			joinedAsTold(t, []string{s[1:]})
		}
	}
}

// A name that is not valid is refused wherever it is, also among too many.
func TestJoinRefusesWrongNames(t *testing.T) {
	for _, name := range wrongNames() {
		for _, n := range []int{1, 2, 3, 15, most, most + 1, most + 2} {
			for at := range n {
				notJoined(t, with(numbered(n), at, name))
			}
		}
	}
}

func TestJoinOfEachByte(t *testing.T) {
	for _, name := range []string{"a", "ab", ".", "..", "thirteenbytes"} {
		for i := range name {
			for c := range 256 {
				b := []byte(name)
				b[i] = byte(c)
				for _, at := range []int{0, 1, 2} {
					joinedAsTold(t, with([]string{"x", "y", "z"}, at, string(b)))
				}
			}
		}
	}
}

// All lists of up to four of these names are joined.
func TestJoinOfAllShortLists(t *testing.T) {
	pieces := []string{"", "/", "a", ".", "..", "...", "a/b", "\x00", "\xff", "thirteenbytes", "fourteen bytes"}
	sequences(pieces, 4, func(l []string) { joinedAsTold(t, l) })
	// Here they are behind twelve others, or behind thirteen.
	sequences(pieces, 4, func(l []string) {
		joinedAsTold(t, slices.Concat(numbered(12), l))
		joinedAsTold(t, slices.Concat(numbered(13), l))
	})
}

// P13.2: Split

func TestTheChaptersExamplesOfSplit(t *testing.T) {
	isSplit(t, "/a/bc", "/a", "bc")
	isSplit(t, "/a", "/", "a")
	notSplit(t, "/")
}

func TestSplitOfKnownPaths(t *testing.T) {
	isSplit(t, "/a/b/c", "/a/b", "c")
	isSplit(t, "/a/a", "/a", "a")
	isSplit(t, "/...", "/", "...")
	isSplit(t, "/.../...", "/...", "...")
	isSplit(t, "/ / ", "/ ", " ")
	isSplit(t, "/\xff/\x80", "/\xff", "\x80")
	isSplit(t, "/0/1/2/3/4/5/6/7/8/9/a/b/c/d/e/f", "/0/1/2/3/4/5/6/7/8/9/a/b/c/d/e", "f")
	isSplit(t, "/thirteenbytes/thirteenbytes", "/thirteenbytes", "thirteenbytes")
}

func TestSplitOfPaths(t *testing.T) {
	for _, l := range lists() {
		switch n := len(l); n {
		case 0:
		case 1:
			isSplit(t, "/"+l[0], "/", l[0])
		default:
			isSplit(t, spelled(l...), spelled(l[:n-1]...), l[n-1])
		}
	}
}

// What would be a path without its last name, or without a slash at its end, is refused as well.
func TestSplitRefusesWhatIsNoPath(t *testing.T) {
	for _, s := range noPaths() {
		notSplit(t, s)
	}
	for _, s := range paths() {
		for _, name := range wrongNames() {
			if len(name) < 300 && s != "/" {
				notSplit(t, s+"/"+name)
			}
		}
	}
	for n := 17; n <= 40; n++ {
		notSplit(t, spelled(numbered(n)...))
	}
}

// P13.2: Under

func TestUnderOfKnownPaths(t *testing.T) {
	for _, k := range []struct {
		s, t     string
		down, up bool
	}{
		{"/", "/", true, true},
		{"/a", "/a", true, true},
		{"/a", "/", true, false},
		{"/a/b/c", "/", true, false},
		{"/a/b", "/a", true, false},
		{"/a/b/c", "/a", true, false},
		{"/a/b/c", "/a/b", true, false},
		{"/a/b/c", "/a/b/c", true, true},
		{"/a/a", "/a", true, false},
		{"/ab", "/a", false, false},
		{"/ab/c", "/a", false, false},
		{"/a/bc", "/a/b", false, false},
		{"/a/bc/d", "/a/b", false, false},
		{"/a/bc", "/ab/c", false, false},
		{"/a", "/b", false, false},
		{"/a/b", "/b", false, false},
		{"/b/a", "/a", false, false},
		{"/b/c/d", "/a/c/d", false, false},
		{"/a/b/d", "/a/c/d", false, false},
		{"/a/b/c", "/a/b/d", false, false},
		{"/a/b/c/d", "/a/x/c", false, false},
		{"/A", "/a", false, false},
		{"/...", "/..a", false, false},
		{"/\xff/a", "/\xff", true, false},
		{"/\xc3\xa9", "/\xc3", false, false},
	} {
		under(t, k.s, k.t, k.down)
		under(t, k.t, k.s, k.up)
	}
}

func TestUnderOfRelatedPaths(t *testing.T) {
	l, count := related(), 0
	for _, s := range l {
		for _, u := range l {
			under(t, s, u, isUnder(s, u))
			if s != u && u != "/" && isUnder(s, u) {
				count++
			}
		}
	}
	if count < 100 {
		t.Errorf("only %d paths are under other ones", count)
	}
}

func TestUnderOfItselfAndTheRoot(t *testing.T) {
	for _, s := range paths() {
		under(t, s, s, true)
		under(t, s, "/", true)
		under(t, "/", s, s == "/")
	}
}

// Strings that are not paths are under nothing, and nothing is under them, themselves among it.
func TestUnderOfWhatIsNoPath(t *testing.T) {
	for _, s := range noPaths() {
		under(t, s, s, false)
		under(t, s, "", false)
		under(t, "", s, false)
		for _, u := range []string{"/", "/a", "/0", "/0/1-------", spelled(numbered(15)...), spelled(numbered(most)...)} {
			under(t, s, u, false)
			under(t, u, s, false)
		}
		// Those that would be under it, or above it, if it were a path.
		under(t, s+"/a", s, false)
		under(t, s, s+"/a", false)
		if i := strings.LastIndex(s, "/"); i >= 0 {
			under(t, s, s[:i], false)
			under(t, s[:i], s, false)
		}
		if i := strings.Index(s, "/"); i >= 0 {
			under(t, s, s[i+1:], false)
			under(t, s[i+1:], s, false)
		}
	}
}

// A path of 16 names has nothing but itself under it.
func TestUnderOfTooManyNames(t *testing.T) {
	for _, l := range [][]string{numbered(18), slices.Repeat([]string{"a"}, 18), slices.Repeat([]string{"thirteenbytes"}, 18)} {
		for i := range l {
			for j := range l {
				under(t, spelled(l[:i+1]...), spelled(l[:j+1]...), j <= i && i < 16)
			}
		}
	}
}

// All pairs of strings of up to five of these bytes are asked.
func TestUnderOfAllShortStrings(t *testing.T) {
	var l []string
	sequences([]string{"/", "a", "b", "."}, 5, func(p []string) { l = append(l, strings.Join(p, "")) })
	right := make([]bool, len(l))
	for i, s := range l {
		right[i] = isPath(s)
	}
	for i, s := range l {
		for j, u := range l {
			under(t, s, u, right[i] && right[j] && isUnder(s, u))
		}
	}
}

// Names that are handed in and handed out are the caller's own.

func TestNothingBeyondTheEndIsRead(t *testing.T) {
	for _, l := range lists() {
		want, _ := joined(l)
		isJoined(t, roomy(l, "", "..", "a/b", "fourteen bytes"), want)
		isJoined(t, roomy(l, numbered(20)...), want)
	}
	// Names behind the end don't make up for wrong ones, and neither is a path read behind its end.
	notJoined(t, roomy([]string{"a", ""}, "b", "c"))
	notJoined(t, roomy(numbered(17), "a"))
	s := spelled(numbered(most)...)
	for i := range s {
		asTold(t, s[:i])
		asTold(t, s[i:])
	}
}

func TestArgumentsAreNotChanged(t *testing.T) {
	more := []string{"x", "", "/", "fourteen bytes"}
	for _, l := range append(wrongLists(), lists()...) {
		m := roomy(l, more...)
		path.Join(m)
		if !slices.Equal(m, l) || !slices.Equal(m[len(m):cap(m)][:len(more)], more) {
			t.Errorf("Join of %.300q made it %.300q", l, m[:len(l)+len(more)])
		}
	}
}

// overwritten writes into all of l, also behind its end.
func overwritten(l []string) {
	l = l[:cap(l)]
	for i := range l {
		l[i] = "overwritten"
	}
}

func TestListsAreNewMemory(t *testing.T) {
	for _, s := range paths() {
		want, _ := namesOf(s)
		one, _ := path.Parse(s)
		other, _ := path.Parse(s)
		overwritten(one)
		if !slices.Equal(other, want) {
			t.Errorf("the names of %q changed with another list: %q", s, other)
		}
		overwritten(other)
		isParsed(t, s, want...)
	}
}

func TestPathsDoNotChangeWithTheirNames(t *testing.T) {
	for _, l := range lists() {
		m := slices.Clone(l)
		want, _ := joined(l)
		s, _ := path.Join(m)
		parsed, _ := path.Parse(s)
		dir, name, _ := path.Split(s)
		wantDir, wantName, _ := divided(want)
		overwritten(m)
		if s != want || !slices.Equal(parsed, l) {
			t.Errorf("the path of %q changed with its list: %q, %q", l, s, parsed)
		}
		overwritten(parsed)
		if s != want || dir != wantDir || name != wantName {
			t.Errorf("the path of %q changed with the list of its names: %q, %q, %q", l, s, dir, name)
		}
	}
}

// P13.3

func TestParseOfWhatJoinReturned(t *testing.T) {
	for _, l := range lists() {
		s, e := path.Join(l)
		m, f := path.Parse(s)
		if e != api.OK || f != api.OK || !slices.Equal(l, m) {
			t.Errorf("%q: got %q, then %q, errors %d, %d", l, s, m, e, f)
		}
	}
}

func TestJoinOfWhatParseReturned(t *testing.T) {
	for _, s := range append(paths(), related()...) {
		l, e := path.Parse(s)
		u, f := path.Join(l)
		if e != api.OK || f != api.OK || s != u {
			t.Errorf("%q: got %q, then %q, errors %d, %d", s, l, u, e, f)
		}
	}
}

// Different lists have different paths, and different paths different lists.
func TestEachPathHasOneList(t *testing.T) {
	paths, count := map[string][]string{}, 0
	sequences([]string{"a", "b", "ab", "aa", "...", "a.b", "\xff"}, 4, func(l []string) {
		s, e := path.Join(l)
		if other, is := paths[s]; is || e != api.OK {
			t.Errorf("%q has the path of %q, %q, error %d", l, other, s, e)
		}
		paths[s] = l
		count++
	})
	for s, l := range paths {
		isParsed(t, s, l...)
	}
	if len(paths) != count || count != 1+7+49+343+2401 {
		t.Errorf("%d lists have %d paths", count, len(paths))
	}
}

// A path's directory and its last name make it up again, also one after the other till no name is left.
func TestSplitDividesAPath(t *testing.T) {
	for _, s := range append(paths(), related()...) {
		want, _ := namesOf(s)
		for n := len(want); n > 0; n-- {
			dir, name, e := path.Split(s)
			l, f := path.Parse(dir)
			if e != api.OK || f != api.OK || name != want[n-1] || !slices.Equal(l, want[:n-1]) {
				t.Errorf("Split of %q: got %q, %q, errors %d, %d", s, dir, name, e, f)
			}
			u, e := path.Join(append(l, name))
			if e != api.OK || u != s {
				t.Errorf("%q and %q make up %q, error %d; want %q", dir, name, u, e, s)
			}
			under(t, s, dir, true)
			under(t, dir, s, false)
			s = dir
		}
		if notSplit(t, s); s != "/" {
			t.Errorf("the last directory of %q is %q", want, s)
		}
	}
}

// A path is under itself and each of its directories, and under nothing else.
func TestUnderOfEachDirectory(t *testing.T) {
	l := related()
	for _, s := range l {
		above := []string{s}
		for u := s; u != "/"; {
			dir, _, e := path.Split(u)
			if e != api.OK {
				t.Fatalf("Split of %q: error %d", u, e)
			}
			above, u = append(above, dir), dir
		}
		for _, u := range append(slices.Clone(l), above...) {
			under(t, s, u, slices.Contains(above, u))
		}
	}
}

func TestUnderIsAPartialOrder(t *testing.T) {
	l := related()
	slices.Sort(l)
	l = slices.Compact(l)
	is := make([][]bool, len(l))
	for i, s := range l {
		for _, u := range l {
			is[i] = append(is[i], path.Under(s, u))
		}
	}
	for i := range l {
		if !is[i][i] {
			t.Errorf("%q is not under itself", l[i])
		}
		for j := range l {
			if i != j && is[i][j] && is[j][i] {
				t.Errorf("%q and %q are under each other", l[i], l[j])
			}
			for k := range l {
				if is[i][j] && is[j][k] && !is[i][k] {
					t.Errorf("%q is under %q, that is under %q, but the first is not under the last", l[i], l[j], l[k])
				}
			}
		}
	}
}
