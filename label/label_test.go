package label_test

import (
	"math"
	"slices"
	"strconv"
	"strings"
	"testing"

	"moat/api"
	"moat/label"
)

const all = api.Label(math.MaxUint16)

// categories lists the bits of a by halving it, so as to share no loop with the package.
func categories(a api.Label) []int {
	l := []int{}
	for k := 0; a > 0; k, a = k+1, a/2 {
		if a%2 == 1 {
			l = append(l, k)
		}
	}
	return l
}

// text is what Text should return.
func text(a api.Label) string {
	s := "["
	for i, k := range categories(a) {
		if i > 0 {
			s += ","
		}
		s += strconv.Itoa(k)
	}
	return s + "]"
}

// everyLabel calls f for all 65536 labels.
func everyLabel(f func(a api.Label)) {
	for n := range 1 << api.Categories {
		f(api.Label(n))
	}
}

// edges are the labels of no, of one, of all and of all but one category, of the lower and of the upper half, and some between.
func edges() []api.Label {
	l := []api.Label{0, all, 0x00FF, 0xFF00, 0x5555, 0xAAAA, 0x8001, 0x7FFE, 0xC000, 0x0003, 0x0180, 0x0400, 0x0402, 0x1234, 0xFEDC}
	for k := range 16 {
		l = append(l, 1<<k, all-1<<k)
	}
	return l
}

// spread are the labels made of five categories, the least and the greatest among them.
func spread() []api.Label {
	var l []api.Label
	for n := range 32 {
		var a api.Label
		for i, k := range []int{0, 1, 7, 10, 15} {
			if n>>i&1 == 1 {
				a += 1 << k
			}
		}
		l = append(l, a)
	}
	return l
}

// ordered returns all labels as Less should order them: those of fewer categories first, then by the first category, the second and so on.
func ordered() []api.Label {
	var l []api.Label
	var add func(a api.Label, from, more int)
	add = func(a api.Label, from, more int) {
		if more == 0 {
			l = append(l, a)
			return
		}
		for k := from; k <= 16-more; k++ {
			add(a+1<<k, k+1, more-1)
		}
	}
	for n := range 17 {
		add(0, 0, n)
	}
	return l
}

// wrongNumbers are no categories, but some become one if they are cut to 4, 8, 16 or 32 bits, or have their sign taken away.
func wrongNumbers() []int {
	return []int{
		-1, 16, 17, 31, 32, 63, 64, 99, 255, 256, 257, 65535, 65536, 1<<31 - 1, 1 << 31, 1 << 32, 1<<32 + 3, math.MaxInt - 1, math.MaxInt,
		-2, -15, -16, -17, -64, -256, -65536, -1 << 31, -1 << 32, 3 - 1<<32, math.MinInt + 1, math.MinInt + 3, math.MinInt,
	}
}

func isOf(t *testing.T, l []int, want api.Label) {
	t.Helper()
	if a, e := label.Of(l); a != want || e != api.OK {
		t.Errorf("Of %v: got %v, error %d; want %v", l, categories(a), e, categories(want))
	}
}

func isNotOf(t *testing.T, l []int) {
	t.Helper()
	if a, e := label.Of(l); a != 0 || e != api.ErrArg {
		t.Errorf("Of %v: got %v, error %d", l, categories(a), e)
	}
}

func parses(t *testing.T, s string, want api.Label) {
	t.Helper()
	if a, e := label.Parse(s); a != want || e != api.OK {
		t.Errorf("Parse of %q: got %v, error %d; want %v", s, categories(a), e, categories(want))
	}
}

func isNoText(t *testing.T, s string) {
	t.Helper()
	if a, e := label.Parse(s); a != 0 || e != api.ErrLabel {
		t.Errorf("Parse of %q: got %v, error %d", s, categories(a), e)
	}
}

// P4.1

func TestOfKnownCategories(t *testing.T) {
	for _, x := range []struct {
		l    []int
		want api.Label
	}{
		{nil, 0},
		{[]int{}, 0},
		{[]int{0}, 1},
		{[]int{15}, 32768},
		{[]int{3, 1, 3}, 10},
		{[]int{0, 15}, 32769},
		{[]int{15, 0}, 32769},
		{[]int{0, 0}, 1},
		{[]int{15, 15, 15}, 32768},
		{[]int{7, 8, 7, 8}, 384},
		{[]int{0, 1, 2, 3, 4, 5, 6, 7, 8, 9, 10, 11, 12, 13, 14, 15}, 65535},
		{[]int{15, 14, 13, 12, 11, 10, 9, 8, 7, 6, 5, 4, 3, 2, 1, 0}, 65535},
		{slices.Repeat([]int{4, 15, 0}, 1000), 32785},
	} {
		isOf(t, x.l, x.want)
	}
}

func TestOfEveryLabel(t *testing.T) {
	everyLabel(func(a api.Label) {
		l := categories(a)
		isOf(t, l, a)
		twice := slices.Concat(l, l)
		slices.Reverse(twice)
		isOf(t, twice, a)
	})
}

func TestOfRefusesWhatIsNoCategory(t *testing.T) {
	for _, n := range wrongNumbers() {
		isNotOf(t, []int{n})
		isNotOf(t, []int{n, n})
		good := []int{0, 15, 3, 3, 8}
		for at := range len(good) + 1 {
			isNotOf(t, slices.Insert(slices.Clone(good), at, n))
		}
		isNotOf(t, append(categories(all), n))
	}
}

func TestOfKnowsEachNumberNear(t *testing.T) {
	for n := -300; n <= 300; n++ {
		if 0 <= n && n <= 15 {
			isOf(t, []int{n}, 1<<n)
		} else {
			isNotOf(t, []int{n})
		}
	}
}

func TestOfLeavesItsArgument(t *testing.T) {
	for _, x := range []struct {
		l []int
		e api.Errno
	}{{nil, api.OK}, {[]int{}, api.OK}, {[]int{9, 2, 9, 0}, api.OK}, {[]int{9, 2, 16, 0}, api.ErrArg}} {
		// What lies behind the end would be refused, if it were read.
		room := append(slices.Clone(x.l), 99, 99)
		if _, e := label.Of(room[:len(x.l)]); e != x.e {
			t.Errorf("Of %v: error %d, want %d", x.l, e, x.e)
		}
		if !slices.Equal(room, append(slices.Clone(x.l), 99, 99)) {
			t.Errorf("Of %v changed its argument to %v", x.l, room)
		}
	}
}

func TestListOfKnownLabels(t *testing.T) {
	for _, x := range []struct {
		a    api.Label
		want []int
	}{
		{0, nil},
		{1, []int{0}},
		{10, []int{1, 3}},
		{32768, []int{15}},
		{32769, []int{0, 15}},
		{256, []int{8}},
		{65535, []int{0, 1, 2, 3, 4, 5, 6, 7, 8, 9, 10, 11, 12, 13, 14, 15}},
	} {
		if l := label.List(x.a); !slices.Equal(l, x.want) {
			t.Errorf("List of %d: got %v, want %v", x.a, l, x.want)
		}
	}
}

func TestListOfEveryLabel(t *testing.T) {
	everyLabel(func(a api.Label) {
		if l := label.List(a); !slices.Equal(l, categories(a)) {
			t.Errorf("List of %d: got %v, want %v", a, l, categories(a))
		}
	})
}

func TestListReturnsNewMemory(t *testing.T) {
	for _, a := range edges() {
		one, other := label.List(a), label.List(a)
		one = one[:cap(one)]
		for i := range one {
			one[i] = 77
		}
		if !slices.Equal(other, categories(a)) || !slices.Equal(label.List(a), categories(a)) {
			t.Errorf("List of %d changed with another result", a)
		}
	}
}

// P4.2

func TestExamplesOfFlowsJoinAndMeet(t *testing.T) {
	for _, x := range []struct {
		a, b, join, meet api.Label
		ab, ba           bool
	}{
		{0, 0, 0, 0, true, true},
		{0, all, all, 0, true, false},
		{all, all, all, all, true, true},
		{1 << 1, 1<<1 | 1<<3, 10, 1 << 1, true, false},
		{1 << 1, 1 << 3, 10, 0, false, false},
		{1, 1 << 15, 32769, 0, false, false},
		{3, 6, 7, 2, false, false},
		{0x7FFF, 0xFFFE, all, 0x7FFE, false, false},
		{0x8000, 0xC000, 0xC000, 0x8000, true, false},
	} {
		if label.Flows(x.a, x.b) != x.ab || label.Flows(x.b, x.a) != x.ba {
			t.Errorf("Flows of %d and %d: got %v and %v", x.a, x.b, label.Flows(x.a, x.b), label.Flows(x.b, x.a))
		}
		if label.Join(x.a, x.b) != x.join || label.Join(x.b, x.a) != x.join {
			t.Errorf("Join of %d and %d: got %d and %d, want %d", x.a, x.b, label.Join(x.a, x.b), label.Join(x.b, x.a), x.join)
		}
		if label.Meet(x.a, x.b) != x.meet || label.Meet(x.b, x.a) != x.meet {
			t.Errorf("Meet of %d and %d: got %d and %d, want %d", x.a, x.b, label.Meet(x.a, x.b), label.Meet(x.b, x.a), x.meet)
		}
	}
}

// combined returns what the lists of a and b say: whether each of a's is one of b's, those of both together, and those that both have.
func combined(a, b api.Label) (flows bool, join, meet api.Label) {
	flows = true
	la, lb := categories(a), categories(b)
	for k := range 16 {
		in, other := slices.Contains(la, k), slices.Contains(lb, k)
		if in || other {
			join += 1 << k
		}
		if in && other {
			meet += 1 << k
		}
		flows = flows && (!in || other)
	}
	return flows, join, meet
}

func TestFlowsJoinAndMeetAsTheirLists(t *testing.T) {
	several := slices.Concat(edges(), spread())
	for _, a := range several {
		for _, b := range several {
			flows, join, meet := combined(a, b)
			if label.Flows(a, b) != flows || label.Join(a, b) != join || label.Meet(a, b) != meet {
				t.Errorf("%d and %d: got %v, %d, %d", a, b, label.Flows(a, b), label.Join(a, b), label.Meet(a, b))
			}
		}
	}
}

// One category more or less is enough, whichever it is and whatever the others are.
func TestFlowsDependsOnEachCategory(t *testing.T) {
	everyLabel(func(a api.Label) {
		for k := range 16 {
			more := a
			if a>>k&1 == 0 {
				more = a + 1<<k
			}
			less := more - 1<<k
			if !label.Flows(less, more) || label.Flows(more, less) {
				t.Errorf("%d and %d: got %v and %v", less, more, label.Flows(less, more), label.Flows(more, less))
			}
			if label.Join(less, 1<<k) != more || label.Meet(more, 1<<k) != 1<<k || label.Meet(less, 1<<k) != 0 {
				t.Errorf("%d and category %d: not joined or met", less, k)
			}
		}
	})
}

func TestLessOfKnownLabels(t *testing.T) {
	for _, x := range []struct {
		a, b   string
		ab, ba bool
	}{
		{"[]", "[]", false, false},
		{"[]", "[0]", true, false},
		{"[]", "[15]", true, false},
		{"[0]", "[15]", true, false},
		{"[2]", "[10]", true, false},
		{"[15]", "[0,1]", true, false},
		{"[14,15]", "[0,1,2]", true, false},
		{"[0,1]", "[0,2]", true, false},
		{"[0,2]", "[1,2]", true, false},
		{"[0,15]", "[1,2]", true, false},
		{"[1,3]", "[1,3]", false, false},
		{"[1,9,15]", "[1,10,11]", true, false},
		{"[0,1,2,15]", "[0,1,3,4]", true, false},
		{"[0,1,2,3,4,5,6,7,8,9,10,11,12,13,14]", "[1,2,3,4,5,6,7,8,9,10,11,12,13,14,15]", true, false},
		{"[1,2,3,4,5,6,7,8,9,10,11,12,13,14,15]", "[0,1,2,3,4,5,6,7,8,9,10,11,12,13,14,15]", true, false},
		{"[0,1,2,3,4,5,6,7,8,9,10,11,12,13,14,15]", "[0,1,2,3,4,5,6,7,8,9,10,11,12,13,14,15]", false, false},
	} {
		a, b := labelOf(t, x.a), labelOf(t, x.b)
		if label.Less(a, b) != x.ab || label.Less(b, a) != x.ba {
			t.Errorf("%s and %s: got %v and %v", x.a, x.b, label.Less(a, b), label.Less(b, a))
		}
	}
}

// labelOf reads s without the package, and makes sure that it is a Text.
func labelOf(t *testing.T, s string) api.Label {
	t.Helper()
	var a api.Label
	for _, w := range strings.FieldsFunc(s, func(r rune) bool { return strings.ContainsRune("[,]", r) }) {
		k, _ := strconv.Atoi(w)
		a += 1 << k
	}
	if text(a) != s {
		t.Fatalf("%q is no label", s)
	}
	return a
}

func TestLessOfNeighbours(t *testing.T) {
	l := ordered()
	for i := range len(l) - 1 {
		if !label.Less(l[i], l[i+1]) || label.Less(l[i+1], l[i]) {
			t.Errorf("%s and %s: got %v and %v", text(l[i]), text(l[i+1]), label.Less(l[i], l[i+1]), label.Less(l[i+1], l[i]))
		}
	}
}

func TestLessAgainstEveryLabel(t *testing.T) {
	l := ordered()
	rank := make([]int, len(l))
	for i, a := range l {
		rank[a] = i
	}
	for _, a := range []api.Label{0, 1, 32768, 0x00FF, 0xFF00, 0x5555, 0xAAAA, 0x1234, 0x7FFF, all} {
		everyLabel(func(b api.Label) {
			if label.Less(a, b) != (rank[a] < rank[b]) || label.Less(b, a) != (rank[b] < rank[a]) {
				t.Errorf("%s and %s: got %v and %v", text(a), text(b), label.Less(a, b), label.Less(b, a))
			}
		})
	}
}

// P4.3

func TestTextOfKnownLabels(t *testing.T) {
	for _, x := range []struct {
		a    api.Label
		want string
	}{
		{0, "[]"},
		{1, "[0]"},
		{10, "[1,3]"},
		{512, "[9]"},
		{1024, "[10]"},
		{32768, "[15]"},
		{32769, "[0,15]"},
		{1<<1 | 1<<11, "[1,11]"},
		{65535, "[0,1,2,3,4,5,6,7,8,9,10,11,12,13,14,15]"},
	} {
		if s := label.Text(x.a); s != x.want {
			t.Errorf("Text of %d: got %q, want %q", x.a, s, x.want)
		}
		parses(t, x.want, x.a)
	}
}

func TestTextAndParseOfEveryLabel(t *testing.T) {
	everyLabel(func(a api.Label) {
		if s := label.Text(a); s != text(a) {
			t.Errorf("Text of %d: got %q, want %q", a, s, text(a))
		}
		parses(t, text(a), a)
	})
}

func TestParseRefusesWhatIsNoText(t *testing.T) {
	for _, s := range []string{
		"", "[", "]", "][", "[[", "]]", "[[]", "[]]", "[[]]", "[][]", "()", "{}", "<>", "1", "1,3", "[1,3", "1,3]", "[[1,3]", "[1,3]]", "[[1,3]]", "]1,3[", "[1],[3]", "[1][3]", "[1,[3]]", "[1,3],",
		",", "[,]", "[,1]", "[1,]", "[1,,3]", "[,1,3]", "[1,3,]", ",[1,3]", "[1,3],", ",[1,3],", "[13", "[1;3]", "[1.3]", "[1|3]", "[1 3]", "[1]3", "1[3]",
		"[3,1]", "[15,0]", "[0,2,1]", "[10,9]", "[1,1]", "[0,0]", "[15,15]", "[1,3,3]", "[1,3,1]", "[0,1,2,3,4,5,6,7,8,9,10,11,12,13,14,15,15]", "[0,1,2,3,4,5,6,7,8,9,10,11,12,13,14,15,0]",
		"[01]", "[00]", "[000]", "[015]", "[1,03]", "[0x1]", "[0b1]", "[0o1]", "[1_0]", "[1e0]", "[1.0]", "[+1]", "[-1]", "[-0]", "[+0]", "[1,+3]", "[1,-3]", "[--1]",
		" ", "[ ]", " []", "[] ", "[1 ]", "[ 1]", "[1, 3]", "[1 ,3]", " [1,3]", "[1,3] ", "[1,3]\n", "[1,3]\r\n", "\t[1,3]", "[1,\t3]", "[1,3\x00]", "[1,3]\x00", "\x00", "[\x00]",
		"[16]", "[17]", "[20]", "[99]", "[100]", "[150]", "[0,16]", "[1,16]", "[15,16]", "[0,1,2,3,4,5,6,7,8,9,10,11,12,13,14,15,16]", "[256]", "[257]", "[65536]", "[4294967297]", "[18446744073709551617]", "[99999999999999999999999999]",
		"[a]", "[A]", "[f]", "[one]", "[1,b]", "a[1]", "[1]a", "[\xb9]", "[\u0661]", "[\uff11]", "[\xff]", "\xff", "\xef\xbb\xbf[1]", "\uff3b1\uff3d", "nil", "null", "\"[1]\"",
		strings.Repeat("[", 300), strings.Repeat("]", 300), strings.Repeat("[]", 300), strings.Repeat(",", 300), "[" + strings.Repeat("1,", 5000) + "1]", "[" + strings.Repeat("0", 5000) + "1]", strings.Repeat("1", 5000), strings.Repeat("[1,3]", 1000),
	} {
		isNoText(t, s)
	}
}

// texts are the Texts of all labels.
func texts() map[string]api.Label {
	m := map[string]api.Label{}
	everyLabel(func(a api.Label) { m[text(a)] = a })
	return m
}

func TestParseOfChangedTexts(t *testing.T) {
	known := texts()
	try := func(s string) {
		if a, there := known[s]; there {
			parses(t, s, a)
		} else {
			isNoText(t, s)
		}
	}
	for _, a := range slices.Concat(edges(), spread()) {
		s := text(a)
		for at := range len(s) + 1 {
			try(s[:at])
			try(s[at:])
			for c := range 256 {
				try(s[:at] + string([]byte{byte(c)}) + s[at:])
				if at < len(s) {
					try(s[:at] + string([]byte{byte(c)}) + s[at+1:])
				}
			}
			if at < len(s) {
				try(s[:at] + s[at+1:])
			}
		}
	}
}

// All strings of up to five of the bytes that a Text has, or nearly has.
func TestParseOfAllShortStrings(t *testing.T) {
	known := texts()
	var try func(s string, more int)
	try = func(s string, more int) {
		if a, there := known[s]; there {
			parses(t, s, a)
		} else {
			isNoText(t, s)
		}
		if more == 0 {
			return
		}
		for _, c := range "[],0156 -" {
			try(s+string(c), more-1)
		}
	}
	try("", 5)
}

// P4.4

func TestFlowsIsAPartialOrder(t *testing.T) {
	everyLabel(func(a api.Label) {
		if !label.Flows(a, a) || !label.Flows(0, a) || !label.Flows(a, all) {
			t.Errorf("%s: does not flow to itself, or not from none, or not to all", text(a))
		}
	})
	for _, l := range [][]api.Label{edges(), spread()} {
		for _, a := range l {
			for _, b := range l {
				if a != b && label.Flows(a, b) && label.Flows(b, a) {
					t.Errorf("%s and %s flow both ways", text(a), text(b))
				}
				for _, c := range l {
					if label.Flows(a, b) && label.Flows(b, c) && !label.Flows(a, c) {
						t.Errorf("%s, %s and %s: not the first to the last", text(a), text(b), text(c))
					}
				}
			}
		}
	}
}

func TestJoinIsTheLeastToWhichBothFlow(t *testing.T) {
	for _, l := range [][]api.Label{edges(), spread()} {
		for _, a := range l {
			for _, b := range l {
				j := label.Join(a, b)
				if !label.Flows(a, j) || !label.Flows(b, j) {
					t.Errorf("%s and %s: one does not flow to their Join %s", text(a), text(b), text(j))
				}
				for _, c := range l {
					if label.Flows(a, c) && label.Flows(b, c) && !label.Flows(j, c) {
						t.Errorf("%s and %s: both flow to %s, their Join %s does not", text(a), text(b), text(c), text(j))
					}
				}
			}
		}
	}
}

func TestMeetIsTheGreatestThatFlowsToBoth(t *testing.T) {
	for _, l := range [][]api.Label{edges(), spread()} {
		for _, a := range l {
			for _, b := range l {
				m := label.Meet(a, b)
				if !label.Flows(m, a) || !label.Flows(m, b) {
					t.Errorf("%s and %s: their Meet %s does not flow to one", text(a), text(b), text(m))
				}
				for _, c := range l {
					if label.Flows(c, a) && label.Flows(c, b) && !label.Flows(c, m) {
						t.Errorf("%s and %s: %s flows to both, not to their Meet %s", text(a), text(b), text(c), text(m))
					}
				}
			}
		}
	}
}

// P4.5

func TestLessIsAStrictTotalOrder(t *testing.T) {
	everyLabel(func(a api.Label) {
		if label.Less(a, a) {
			t.Errorf("%s is before itself", text(a))
		}
	})
	for _, l := range [][]api.Label{edges(), spread()} {
		for _, a := range l {
			for _, b := range l {
				if a != b && label.Less(a, b) == label.Less(b, a) {
					t.Errorf("%s and %s: none or each is before the other", text(a), text(b))
				}
				for _, c := range l {
					if label.Less(a, b) && label.Less(b, c) && !label.Less(a, c) {
						t.Errorf("%s, %s and %s: the first is not before the last", text(a), text(b), text(c))
					}
				}
			}
		}
	}
}

func TestLessPutsNoLabelBeforeOneThatFlowsToIt(t *testing.T) {
	for _, l := range [][]api.Label{edges(), spread()} {
		for _, a := range l {
			for _, b := range l {
				if label.Flows(a, b) && label.Less(b, a) {
					t.Errorf("%s flows to %s, which is before it", text(a), text(b))
				}
			}
		}
	}
	everyLabel(func(a api.Label) {
		for _, k := range categories(a) {
			if b := a - 1<<k; label.Less(a, b) || !label.Less(b, a) {
				t.Errorf("%s flows to %s, but is not before it", text(b), text(a))
			}
		}
	})
}
