package intern_test

import (
	"bytes"
	"encoding/binary"
	"math"
	"slices"
	"testing"

	"moat/api"
	"moat/intern"
)

const (
	most = 65535 // references of a row
	size = 64    // bytes of a table
)

// isValid holds rows against the chapter's words, by counting the labels of the rows that are not free.
func isValid(l []api.Row) bool {
	count := map[api.Label]int{}
	for _, r := range l {
		switch {
		case r.Refs < 0, r.Refs > most, r.Refs == 0 && r.Label != 0:
			return false
		case r.Refs > 0:
			count[r.Label]++
		}
	}
	for _, n := range count {
		if n > 1 {
			return false
		}
	}
	return len(l) == 16
}

// free returns n rows that are free.
func free(n int) []api.Row { return make([]api.Row, n) }

// full returns n rows with different labels, none of which is 0 or below 16, and different Refs.
func full(n int) []api.Row {
	l := free(n)
	for i := range l {
		l[i] = api.Row{Label: api.Label(16 + 257*i), Refs: 1 + 300*i}
	}
	return l
}

// half returns a table in which every other row is free, and one has the label 0.
func half() []api.Row {
	l := full(16)
	for i := range l {
		if i%2 == 0 {
			l[i] = api.Row{}
		}
	}
	l[9].Label = 0
	return l
}

// with returns a copy of l with that row.
func with(l []api.Row, row int, label api.Label, refs int) []api.Row {
	l = slices.Clone(l)
	l[row] = api.Row{Label: label, Refs: refs}
	return l
}

// roomy returns a copy of l behind whose end there are the rows more.
func roomy(l []api.Row, more ...api.Row) []api.Row {
	return append(slices.Clone(l), more...)[:len(l)]
}

// byteRoom returns a copy of b behind whose end there are the bytes more.
func byteRoom(b []byte, more ...byte) []byte {
	return append(slices.Clone(b), more...)[:len(b)]
}

// spelled returns the bytes of rows, of which there may be any number; each number is cut to two bytes.
func spelled(l []api.Row) []byte {
	var b []byte
	for _, r := range l {
		b = binary.LittleEndian.AppendUint16(b, uint16(r.Label))
		b = binary.LittleEndian.AppendUint16(b, uint16(r.Refs))
	}
	return b
}

// read returns the rows that the library finds in b.
func read(b []byte) []api.Row {
	var l []api.Row
	for ; len(b) >= 4; b = b[4:] {
		l = append(l, api.Row{Label: api.Label(binary.LittleEndian.Uint16(b)), Refs: int(binary.LittleEndian.Uint16(b[2:]))})
	}
	return l
}

// valid are tables: all rows free and none, one row of each index, and each bound of Refs.
func valid() [][]api.Row {
	l := [][]api.Row{free(16), full(16), half(), with(full(16), 0, 0, 1), with(full(16), 15, 0, most), with(half(), 4, 65535, most)}
	for i := range 16 {
		for _, refs := range []int{1, 2, 255, 256, most - 1, most} {
			for _, a := range []api.Label{0, 1, 255, 256, 1 << 15, 65535} {
				l = append(l, with(free(16), i, a, refs))
			}
			l = append(l, with(full(16), i, 3, refs), with(half(), i, 3, refs))
		}
		l = append(l, with(full(16), i, 0, 0), with(half(), i, 0, 0))
	}
	return l
}

// wrongRefs are the numbers that Refs may not be; most of them may, if they are cut to fewer bits or have their sign taken away.
var wrongRefs = []int{
	math.MinInt, math.MinInt + 1, -1<<32 + 1, -1 << 32, -1 << 31, -1<<16 + 1, -1 << 16, -most, -2, -1,
	most + 1, most + 2, 1<<17 + 1, 1<<31 - 1, 1 << 31, 1 << 32, 1<<32 + 1, math.MaxInt - 1, math.MaxInt,
}

// wrong are rows that are not valid, each of them for one reason.
func wrong() [][]api.Row {
	l := [][]api.Row{nil, {}, free(1), free(15), free(17), free(32), full(1), full(15), full(17), full(32), half()[:15], append(half(), api.Row{})}
	for i := range 16 {
		for _, n := range wrongRefs {
			l = append(l, with(free(16), i, 0, n), with(free(16), i, 3, n), with(full(16), i, 3, n), with(half(), i, 3, n))
		}
		for _, a := range []api.Label{1, 3, 256, 1 << 15, 65535} {
			l = append(l, with(free(16), i, a, 0), with(full(16), i, a, 0), with(half(), i, a, 0))
		}
		for j := range i {
			for _, a := range []api.Label{0, 3, 65535} {
				l = append(l, with(with(free(16), i, a, 1), j, a, 2), with(with(full(16), i, a, 5), j, a, 5))
			}
			// A row that is free has no label, that of another row neither.
			l = append(l, with(with(free(16), i, 3, 1), j, 3, 0), with(with(free(16), i, 3, 0), j, 3, 1))
		}
	}
	return l
}

// outside are no indices of rows; some become one if they are cut to fewer bits, or have their sign taken away.
var outside = []int{
	math.MinInt, math.MinInt + 1, -1 << 32, -1 << 31, -1 << 16, -256, -16, -15, -2, -1,
	16, 17, 31, 32, 255, 256, 1 << 16, 1<<31 - 1, 1 << 31, 1 << 32, 1<<32 + 1, math.MaxInt - 15, math.MaxInt,
}

func isRight(t *testing.T, l []api.Row, want bool) {
	t.Helper()
	if intern.Right(l) != want {
		t.Errorf("Right of %v: got %v", l, !want)
	}
}

func isFound(t *testing.T, l []api.Row, a api.Label, row int) {
	t.Helper()
	if i, is := intern.Find(l, a); i != row || !is {
		t.Errorf("Find of %d in %v: got %d, %v; want %d", a, l, i, is, row)
	}
}

func noneFound(t *testing.T, l []api.Row, a api.Label) {
	t.Helper()
	if i, is := intern.Find(l, a); i != 0 || is {
		t.Errorf("Find of %d in %v: got %d, %v; want none", a, l, i, is)
	}
}

// retained fails the test if Retain does not return want and its row; it returns what Retain does.
func retained(t *testing.T, l []api.Row, a api.Label, row int, want []api.Row) []api.Row {
	t.Helper()
	m, i, e := intern.Retain(l, a)
	if e != api.OK || i != row || !slices.Equal(m, want) {
		t.Errorf("Retain of %d in %v: got %v, %d, error %d; want %v, %d", a, l, m, i, e, want, row)
	}
	return m
}

func notRetained(t *testing.T, l []api.Row, a api.Label, want api.Errno) {
	t.Helper()
	if m, i, e := intern.Retain(l, a); len(m) != 0 || i != 0 || e != want {
		t.Errorf("Retain of %d in %v: got %v, %d, error %d; want error %d", a, l, m, i, e, want)
	}
}

// released fails the test if Release does not return want; it returns what Release does.
func released(t *testing.T, l []api.Row, row int, want []api.Row) []api.Row {
	t.Helper()
	m, e := intern.Release(l, row)
	if e != api.OK || !slices.Equal(m, want) {
		t.Errorf("Release of %d in %v: got %v, error %d; want %v", row, l, m, e, want)
	}
	return m
}

func notReleased(t *testing.T, l []api.Row, row int, want api.Errno) {
	t.Helper()
	if m, e := intern.Release(l, row); len(m) != 0 || e != want {
		t.Errorf("Release of %d in %v: got %v, error %d; want error %d", row, l, m, e, want)
	}
}

func isLaid(t *testing.T, l []api.Row, want []byte) {
	t.Helper()
	if b, e := intern.Lay(l); e != api.OK || !bytes.Equal(b, want) {
		t.Errorf("Lay of %v: got %v, error %d; want %v", l, b, e, want)
	}
}

func isTaken(t *testing.T, b []byte, want []api.Row) {
	t.Helper()
	if l, e := intern.Take(b); e != api.OK || !slices.Equal(l, want) {
		t.Errorf("Take of %v: got %v, error %d; want %v", b, l, e, want)
	}
}

func isRefused(t *testing.T, b []byte) {
	t.Helper()
	if l, e := intern.Take(b); len(l) != 0 || e != api.ErrRows {
		t.Errorf("Take of %v: got %v, error %d; want none, error %d", b, l, e, api.ErrRows)
	}
}

// The tables of the tests are what they are said to be.
func TestTables(t *testing.T) {
	for _, l := range valid() {
		if !isValid(l) {
			t.Errorf("%v is not valid", l)
		}
	}
	for _, l := range wrong() {
		if isValid(l) {
			t.Errorf("%v is valid", l)
		}
	}
}

// P10.1

func TestRightOfTables(t *testing.T) {
	for _, l := range valid() {
		isRight(t, l, true)
	}
	for _, l := range wrong() {
		isRight(t, l, false)
	}
}

func TestRightOfEachNumberOfRows(t *testing.T) {
	isRight(t, nil, false)
	for n := range 70 {
		isRight(t, free(n), n == 16)
		isRight(t, full(n), n == 16)
		// Rows behind the end don't count, neither in their number nor by what they are.
		isRight(t, roomy(full(n), full(70)[n:]...), n == 16)
		isRight(t, roomy(full(n), append([]api.Row{{Label: 16, Refs: 1}, {Label: 3}, {Refs: -1}}, free(16)...)...), n == 16)
	}
	isRight(t, free(1<<16), false)
	isRight(t, free(1<<16+16), false)
}

func TestRightOfEachRefs(t *testing.T) {
	for n := -70000; n <= 140000; n++ {
		isRight(t, []api.Row{3: {Refs: n}, 15: {}}, 0 <= n && n <= most)
		isRight(t, []api.Row{0: {Label: 3, Refs: n}, 15: {}}, 1 <= n && n <= most)
		isRight(t, []api.Row{15: {Label: 65535, Refs: n}}, 1 <= n && n <= most)
	}
}

// A free row has the label 0, and a row with the label 0 need not be free.
func TestRightOfEachLabel(t *testing.T) {
	for a := range 1 << 16 {
		for _, i := range []int{0, 7, 15} {
			isRight(t, with(free(16), i, api.Label(a), 0), a == 0)
			isRight(t, with(free(16), i, api.Label(a), 1), true)
		}
	}
}

func TestRightOfEachPairOfRows(t *testing.T) {
	for i := range 16 {
		for j := range i {
			for _, a := range []api.Label{0, 1, 65535} {
				for _, b := range []api.Label{0, 1, 2, 1 << 15, 65534, 65535} {
					for _, m := range []int{0, 1, most} {
						for _, n := range []int{0, 1, 2, most} {
							l := with(with(free(16), i, a, m), j, b, n)
							isRight(t, l, isValid(l))
							l = with(with(full(16), i, a, m), j, b, n)
							isRight(t, l, isValid(l))
						}
					}
				}
			}
		}
	}
}

func TestRightOfManyRowsWithTheSameLabel(t *testing.T) {
	for _, a := range []api.Label{0, 5, 65535} {
		for n := range 17 {
			l := free(16)
			for i := range n {
				l[15-i] = api.Row{Label: a, Refs: 1 + i}
			}
			isRight(t, l, n < 2)
		}
	}
}

func TestFindOfEachLabel(t *testing.T) {
	for _, l := range [][]api.Row{free(16), full(16), half(), with(full(16), 0, 0, 1), with(full(16), 15, 0, most), with(free(16), 0, 65535, 1), with(free(16), 15, 65535, most)} {
		rows := map[api.Label]int{}
		for i, r := range l {
			if r.Refs > 0 {
				rows[r.Label] = i
			}
		}
		for n := range 1 << 16 {
			a := api.Label(n)
			if row, is := rows[a]; is {
				isFound(t, l, a, row)
			} else {
				noneFound(t, l, a)
			}
		}
	}
}

// The label 0 has a row only if that is not free.
func TestFindOfTheLabelOfFreeRows(t *testing.T) {
	noneFound(t, free(16), 0)
	noneFound(t, full(16), 0)
	for i := range 16 {
		isFound(t, with(free(16), i, 0, 1), 0, i)
		isFound(t, with(full(16), i, 0, most), 0, i)
		noneFound(t, with(full(16), i, 0, 0), 0)
		noneFound(t, with(free(16), i, 3, 1), 0)
	}
}

func TestFindOfEachRow(t *testing.T) {
	for _, l := range valid() {
		for i, r := range l {
			if r.Refs > 0 {
				isFound(t, l, r.Label, i)
			}
		}
	}
}

// Not even a label that is there is found in rows that are not valid.
func TestFindInWrongRows(t *testing.T) {
	for _, l := range wrong() {
		for _, a := range []api.Label{0, 1, 3, 16, 273, 65535} {
			noneFound(t, l, a)
		}
		for _, r := range l {
			noneFound(t, l, r.Label)
		}
	}
}

// P10.2

// The chapter's example, row for row.
func TestExample(t *testing.T) {
	one, two, three := api.Label(1<<1), api.Label(1<<2), api.Label(1<<3)
	l := retained(t, free(16), one, 0, []api.Row{0: {Label: one, Refs: 1}, 15: {}})
	l = retained(t, l, two, 1, []api.Row{0: {Label: one, Refs: 1}, 1: {Label: two, Refs: 1}, 15: {}})
	l = retained(t, l, one, 0, []api.Row{0: {Label: one, Refs: 2}, 1: {Label: two, Refs: 1}, 15: {}})
	l = released(t, l, 0, []api.Row{0: {Label: one, Refs: 1}, 1: {Label: two, Refs: 1}, 15: {}})
	l = released(t, l, 0, []api.Row{1: {Label: two, Refs: 1}, 15: {}})
	retained(t, l, three, 0, []api.Row{0: {Label: three, Refs: 1}, 1: {Label: two, Refs: 1}, 15: {}})
}

func TestRetainOfALabelThatIsThere(t *testing.T) {
	for _, l := range valid() {
		for i, r := range l {
			if 0 < r.Refs && r.Refs < most {
				retained(t, l, r.Label, i, with(l, i, r.Label, r.Refs+1))
			} else if r.Refs == most {
				notRetained(t, l, r.Label, api.ErrLong)
			}
		}
	}
}

func TestRetainOfEachRefs(t *testing.T) {
	for n := 1; n <= most; n++ {
		l := with(half(), 15, 3, n)
		if n < most {
			retained(t, l, 3, 15, with(half(), 15, 3, n+1))
		} else {
			notRetained(t, l, 3, api.ErrLong)
		}
	}
}

func TestRetainUpToTheLimit(t *testing.T) {
	for _, a := range []api.Label{0, 5} {
		l := full(16)
		l[2] = api.Row{}
		for n := 1; n <= most; n++ {
			l = retained(t, l, a, 2, with(full(16), 2, a, n))
		}
		// Another free row doesn't take the label: it has one.
		notRetained(t, l, a, api.ErrLong)
		l[1], l[9] = api.Row{}, api.Row{}
		notRetained(t, l, a, api.ErrLong)
		l = released(t, l, 2, with(l, 2, a, most-1))
		l = retained(t, l, a, 2, with(l, 2, a, most))
		notRetained(t, l, a, api.ErrLong)
	}
}

// Whichever rows are free, the first of them gets the label.
func TestRetainTakesTheFirstFreeRow(t *testing.T) {
	for set := range 1 << 16 {
		l, first := full(16), 16
		for i := 15; i >= 0; i-- {
			if set>>i&1 == 1 {
				l[i], first = api.Row{}, i
			}
		}
		for _, a := range []api.Label{0, 3, 65535} {
			if first < 16 {
				retained(t, l, a, first, with(l, first, a, 1))
			} else {
				notRetained(t, l, a, api.ErrFull)
			}
		}
	}
}

func TestRetainOfEachLabel(t *testing.T) {
	for n := range 1 << 16 {
		a := api.Label(n)
		retained(t, free(16), a, 0, []api.Row{0: {Label: a, Refs: 1}, 15: {}})
		l := full(16)
		i := slices.IndexFunc(l, func(r api.Row) bool { return r.Label == a })
		if i < 0 {
			notRetained(t, l, a, api.ErrFull)
		} else {
			retained(t, l, a, i, with(l, i, a, l[i].Refs+1))
		}
	}
}

// Where no row is free, a label that has a row can still be retained, up to the limit of that row.
func TestRetainInAFullTable(t *testing.T) {
	for i := range 16 {
		l := with(full(16), i, 7, most)
		notRetained(t, l, 7, api.ErrLong)
		notRetained(t, l, 0, api.ErrFull)
		notRetained(t, l, 6, api.ErrFull)
		l[i].Refs--
		retained(t, l, 7, i, with(l, i, 7, most))
	}
}

func TestReleaseOfEachRow(t *testing.T) {
	for _, l := range valid() {
		for i, r := range l {
			switch r.Refs {
			case 0:
				notReleased(t, l, i, api.ErrNone)
			case 1:
				released(t, l, i, with(l, i, 0, 0))
			default:
				released(t, l, i, with(l, i, r.Label, r.Refs-1))
			}
		}
	}
}

func TestReleaseOfEachRefs(t *testing.T) {
	for n := most; n >= 2; n-- {
		released(t, with(half(), 15, 3, n), 15, with(half(), 15, 3, n-1))
	}
	released(t, with(half(), 15, 3, 1), 15, with(half(), 15, 0, 0))
	notReleased(t, with(half(), 15, 0, 0), 15, api.ErrNone)
}

// A row that gave its last reference back is the first free one for another label, and not found by its old one.
func TestRetainBehindTheLastRelease(t *testing.T) {
	for i := range 16 {
		for _, a := range []api.Label{0, 7} {
			l := with(full(16), i, a, 2)
			l = released(t, l, i, with(full(16), i, a, 1))
			isFound(t, l, a, i)
			notRetained(t, l, 8, api.ErrFull)
			l = released(t, l, i, with(full(16), i, 0, 0))
			noneFound(t, l, a)
			notReleased(t, l, i, api.ErrNone)
			l = retained(t, l, 8, i, with(full(16), i, 8, 1))
			notRetained(t, l, a, api.ErrFull)
		}
	}
}

func TestReleaseOfRowsThatAreNotThere(t *testing.T) {
	for _, l := range [][]api.Row{free(16), full(16), half()} {
		for _, row := range outside {
			notReleased(t, l, row, api.ErrArg)
			notReleased(t, roomy(l, full(32)[16:]...), row, api.ErrArg)
		}
	}
}

// Rows that are not valid come first, whatever else is wrong.
func TestNothingFollowsOfWrongRows(t *testing.T) {
	for _, l := range wrong() {
		for _, a := range []api.Label{0, 1, 3, 16, 273, 65535} {
			notRetained(t, l, a, api.ErrArg)
		}
		for row := range 18 {
			notReleased(t, l, row, api.ErrArg)
		}
		for _, row := range outside {
			notReleased(t, l, row, api.ErrArg)
		}
		if b, e := intern.Lay(l); len(b) != 0 || e != api.ErrArg {
			t.Errorf("Lay of %v: got %v, error %d", l, b, e)
		}
	}
	// A label at its limit, no free row, and a free row, in rows that are not valid for another reason.
	notRetained(t, with(with(full(16), 3, 7, most), 4, 9, -1), 7, api.ErrArg)
	notRetained(t, with(full(16), 4, 9, -1), 5, api.ErrArg)
	notReleased(t, with(half(), 15, 9, most+1), 0, api.ErrArg)
}

func TestRowsAreNotChanged(t *testing.T) {
	more := full(40)[16:]
	for _, l := range append(append(wrong(), valid()...), half()) {
		m := roomy(l, more...)
		intern.Right(m)
		intern.Find(m, 3)
		intern.Lay(m)
		for i := -1; i <= 16; i++ {
			intern.Release(m, i)
			if 0 <= i && i < len(m) {
				intern.Find(m, m[i].Label)
				intern.Retain(m, m[i].Label)
			}
		}
		intern.Retain(m, 0)
		intern.Retain(m, 3)
		if !slices.Equal(m, l) || !slices.Equal(m[len(m):cap(m)][:len(more)], more) {
			t.Fatalf("the rows became %v, were %v", m[:len(m)+len(more)], l)
		}
	}
}

// scribble writes another row into all that l has room for.
func scribble(l []api.Row) {
	l = l[:cap(l)]
	for i := range l {
		l[i] = api.Row{Label: 77, Refs: 77}
	}
}

// results are the rows that each way through the calls returns of l.
func results(l []api.Row) [][]api.Row {
	a, _, _ := intern.Retain(l, 273)
	b, _, _ := intern.Retain(l, 3)
	c, _ := intern.Release(l, 1)
	d, _ := intern.Release(l, 3)
	bytes, _ := intern.Lay(l)
	e, _ := intern.Take(bytes)
	return [][]api.Row{a, b, c, d, e}
}

func TestResultsAreNewRows(t *testing.T) {
	l := half()
	want := [][]api.Row{with(l, 1, 273, 302), with(l, 0, 3, 1), with(l, 1, 273, 300), with(l, 3, 787, 900), l}
	for i := range want {
		one, other := results(l), results(l)
		scribble(one[i])
		if !slices.Equal(l, half()) {
			t.Fatalf("the rows became %v with result %d", l, i)
		}
		for j, m := range results(l) {
			if !slices.Equal(m, want[j]) || !slices.Equal(other[j], want[j]) || j != i && !slices.Equal(one[j], want[j]) {
				t.Errorf("result %d changed with result %d, or is not %v: %v, %v, %v", j, i, want[j], one[j], other[j], m)
			}
		}
	}
}

// A result stays as it is when the rows change of which it was made.
func TestResultsKeepNothing(t *testing.T) {
	l := half()
	before := results(l)
	b, _ := intern.Lay(l)
	scribble(l)
	for i, m := range results(half()) {
		if !slices.Equal(before[i], m) {
			t.Errorf("result %d became %v, was %v", i, before[i], m)
		}
	}
	if !bytes.Equal(b, spelled(half())) {
		t.Errorf("the bytes became %v", b)
	}
}

// P10.3

func TestKnownBytes(t *testing.T) {
	l := []api.Row{0: {Label: 0, Refs: 258}, 1: {Label: 772, Refs: 1}, 14: {}, 15: {Label: 65535, Refs: most}}
	b := make([]byte, size)
	copy(b, []byte{0, 0, 2, 1, 4, 3, 1, 0})
	copy(b[60:], []byte{255, 255, 255, 255})
	isLaid(t, l, b)
	isTaken(t, b, l)
	isLaid(t, free(16), make([]byte, size))
	isTaken(t, make([]byte, size), free(16))
}

func TestLayAndTakeOfTables(t *testing.T) {
	for _, l := range valid() {
		isLaid(t, l, spelled(l))
		isTaken(t, spelled(l), l)
	}
}

func TestLayAndTakeOfEachNumber(t *testing.T) {
	for n := range 1 << 16 {
		for _, i := range []int{0, 6, 15} {
			l := with(half(), i, api.Label(n), 5)
			if isValid(l) {
				isLaid(t, l, spelled(l))
				isTaken(t, spelled(l), l)
			} else {
				isRefused(t, spelled(l))
			}
			l = with(half(), i, 3, n)
			if n > 0 {
				isLaid(t, l, spelled(l))
				isTaken(t, spelled(l), l)
			} else {
				isRefused(t, spelled(l))
			}
		}
	}
}

// Of all tables that differ from a right one in one byte, those that are valid are taken, and the others are refused.
func TestTakeOfAnyOtherByte(t *testing.T) {
	for _, l := range [][]api.Row{free(16), full(16), half(), with(half(), 15, 65535, most), with(with(free(16), 0, 256, 256), 15, 1, 1)} {
		b := spelled(l)
		taken, refused := 0, 0
		for i := range b {
			for c := range 256 {
				d := slices.Clone(b)
				d[i] = byte(c)
				if m := read(d); isValid(m) {
					isTaken(t, d, m)
					taken++
				} else {
					isRefused(t, d)
					refused++
				}
			}
		}
		if taken == 0 || refused == 0 {
			t.Errorf("of %v, %d tables with another byte are valid, and %d are not", l, taken, refused)
		}
	}
}

func TestTakeRefusesWrongRows(t *testing.T) {
	for _, l := range wrong() {
		// A number that needs more than two bytes has no bytes of its own, and becomes another one.
		if b := spelled(l); !isValid(read(b)) {
			isRefused(t, b)
		}
	}
	// A free row with a label; two rows with a label, also with the label 0; at all places.
	for i := range 16 {
		for k := range 2 {
			b := make([]byte, size)
			b[4*i+k] = 1
			isRefused(t, b)
			b[4*i+2] = 1
			isTaken(t, b, read(b))
		}
		for j := range i {
			for _, c := range []byte{0, 9} {
				b := make([]byte, size)
				b[4*i], b[4*i+2], b[4*j], b[4*j+2] = c, 1, c, 1
				isRefused(t, b)
				b[4*j+1] = 1
				isTaken(t, b, read(b))
				b[4*i+1] = 1
				isRefused(t, b)
			}
		}
	}
	isRefused(t, bytes.Repeat([]byte{255}, size))
	isRefused(t, bytes.Repeat([]byte{1}, size))
}

func TestTakeRefusesOtherLengths(t *testing.T) {
	isRefused(t, nil)
	isRefused(t, []byte{})
	for n := range 200 {
		if n == size {
			continue
		}
		isRefused(t, make([]byte, n))
		isRefused(t, spelled(full(50))[:n])
		// Bytes behind the end don't make up for those that are missing.
		isRefused(t, byteRoom(make([]byte, n), make([]byte, 200)...))
	}
	b := spelled(half())
	for _, n := range []int{60, 62, 63} {
		isRefused(t, byteRoom(b[:n], b[n:]...))
		isRefused(t, b[size-n:])
	}
	for _, n := range []int{1, 2, 4, size, 4032, 4096, 1 << 16} {
		isRefused(t, slices.Concat(b, make([]byte, n)))
		isRefused(t, slices.Concat(make([]byte, n), b))
	}
}

// Rows in another order of their bytes, or with numbers of another size, are other rows or none.
func TestTakeOfBytesInAnotherOrder(t *testing.T) {
	isTaken(t, append([]byte{0, 3, 0, 1}, make([]byte, 60)...), []api.Row{0: {Label: 768, Refs: 256}, 15: {}})
	isRefused(t, append([]byte{3, 0, 0, 0, 1, 0, 0, 0}, make([]byte, 56)...))
	isRefused(t, append([]byte{3, 1}, make([]byte, 62)...))
}

func TestTakeDoesNotReadBeyondTheEnd(t *testing.T) {
	for _, l := range valid() {
		for _, c := range []byte{0, 1, 255} {
			isTaken(t, byteRoom(spelled(l), bytes.Repeat([]byte{c}, 80)...), l)
		}
	}
}

func TestLayDoesNotReadBeyondTheEnd(t *testing.T) {
	for _, l := range valid() {
		isLaid(t, roomy(l, full(32)[16:]...), spelled(l))
		isLaid(t, roomy(l, l...), spelled(l))
	}
}

func TestBytesAreNotChanged(t *testing.T) {
	more := bytes.Repeat([]byte{238}, 80)
	for _, b := range [][]byte{nil, spelled(free(16)), spelled(full(16)), spelled(half()), spelled(half())[:63], spelled(full(17)), bytes.Repeat([]byte{1}, size)} {
		c := byteRoom(b, more...)
		intern.Take(c)
		if !bytes.Equal(c, b) || !bytes.Equal(c[len(c):cap(c)][:len(more)], more) {
			t.Errorf("the bytes became %v, were %v", c[:len(c)+len(more)], b)
		}
	}
}

func TestLayReturnsNewMemory(t *testing.T) {
	l := half()
	one, _ := intern.Lay(l)
	other, _ := intern.Lay(l)
	one = one[:cap(one)]
	for i := range one {
		one[i] = 77
	}
	if !bytes.Equal(other, spelled(half())) || !slices.Equal(l, half()) {
		t.Errorf("a result changed with another one: %v, %v", other, l)
	}
	isLaid(t, l, spelled(half()))
}

func TestTakeReturnsNewMemory(t *testing.T) {
	b := spelled(half())
	one, _ := intern.Take(b)
	other, _ := intern.Take(b)
	scribble(one)
	if !slices.Equal(other, half()) || !bytes.Equal(b, spelled(half())) {
		t.Errorf("a result changed with another one: %v, %v", other, b)
	}
	clear(b)
	if !slices.Equal(other, half()) {
		t.Errorf("a result changed with its bytes: %v", other)
	}
	isTaken(t, spelled(half()), half())
}

// P10.4

// counted fails the test if the rows do not have the labels of count, each with its number, and no others.
func counted(t *testing.T, l []api.Row, count map[api.Label]int) {
	t.Helper()
	got := map[api.Label]int{}
	for _, r := range l {
		if r.Refs != 0 {
			got[r.Label] += r.Refs
		}
	}
	is := isValid(l) && intern.Right(l) && len(got) == len(count)
	for a, n := range count {
		row, ok := intern.Find(l, a)
		is = is && got[a] == n && ok && l[row] == api.Row{Label: a, Refs: n}
	}
	if !is {
		t.Fatalf("the rows are %v; want %v", l, count)
	}
}

// step retains or releases a label, both in the rows and in count, and returns the rows.
func step(t *testing.T, l []api.Row, count map[api.Label]int, a api.Label, retain bool) []api.Row {
	t.Helper()
	if retain {
		m, row, e := intern.Retain(l, a)
		switch {
		case count[a] == 0 && len(count) == 16:
			notRetained(t, l, a, api.ErrFull)
			return l
		case count[a] == most:
			notRetained(t, l, a, api.ErrLong)
			return l
		case e != api.OK || m[row].Label != a:
			t.Fatalf("Retain of %d in %v: got %v, %d, error %d", a, l, m, row, e)
		}
		count[a]++
		return m
	}
	row, is := intern.Find(l, a)
	if !is {
		return l
	}
	m, e := intern.Release(l, row)
	if e != api.OK {
		t.Fatalf("Release of %d in %v: error %d", row, l, e)
	}
	if count[a]--; count[a] == 0 {
		delete(count, a)
	}
	return m
}

// All sequences of six steps with three labels, among them the label 0.
func TestRefsAreWhatWasRetainedAndNotReleased(t *testing.T) {
	labels := []api.Label{0, 6, 65535}
	for n := range 6 * 6 * 6 * 6 * 6 * 6 {
		l, count := free(16), map[api.Label]int{}
		for range 6 {
			l = step(t, l, count, labels[n%3], n/3%2 == 0)
			n /= 6
		}
		counted(t, l, count)
	}
}

// Long sequences with more labels than there are rows, so that the table is full at times, and empty at times.
func TestRefsInLongSequences(t *testing.T) {
	l, count := free(16), map[api.Label]int{}
	seed := uint32(1)
	fullest, retains := 0, 0
	for n := range 40000 {
		seed = seed*1664525 + 1013904223
		a := api.Label(seed >> 16 % 24 * 2731)
		// More retains than releases fill the table, and more releases empty it again.
		retain := seed>>24%8 < uint32(2+n/2000%2*4)
		l = step(t, l, count, a, retain)
		counted(t, l, count)
		isLaid(t, l, spelled(l))
		isTaken(t, spelled(l), l)
		if fullest = max(fullest, len(count)); retain {
			retains++
		}
	}
	if fullest != 16 || retains < 10000 {
		t.Errorf("at most %d labels after %d retains", fullest, retains)
	}
}

func TestTakeReturnsWhatLayStored(t *testing.T) {
	for _, l := range valid() {
		b, e := intern.Lay(l)
		m, f := intern.Take(b)
		if e != api.OK || f != api.OK || !slices.Equal(m, l) {
			t.Errorf("Take of Lay of %v: got %v, errors %d, %d", l, m, e, f)
		}
	}
}

// Different tables have different bytes, so that these tell the table.
func TestTablesHaveTheirOwnBytes(t *testing.T) {
	all := map[string][]api.Row{}
	for _, l := range valid() {
		b, _ := intern.Lay(l)
		if m, is := all[string(b)]; is && !slices.Equal(l, m) {
			t.Errorf("%v and %v have the same bytes", l, m)
		}
		all[string(b)] = l
	}
}

func TestTheSameCallsReturnTheSame(t *testing.T) {
	for _, l := range append(wrong(), half(), full(16), free(16)) {
		one, i, e := intern.Retain(l, 273)
		two, f := intern.Release(l, 1)
		results(full(16))
		intern.Take(nil)
		if m, j, g := intern.Retain(l, 273); !slices.Equal(m, one) || j != i || g != e {
			t.Errorf("two Retains in %v differ", l)
		}
		if m, g := intern.Release(l, 1); !slices.Equal(m, two) || g != f {
			t.Errorf("two Releases in %v differ", l)
		}
	}
}
