package bits_test

import (
	"bytes"
	"math"
	"slices"
	"testing"

	"moat/api"
	"moat/bits"
)

const most = api.MaxBits / 8

// digits spells the bits of b by halving its bytes, so as to share nothing with the package.
func digits(b []byte) []int {
	l := []int{}
	for _, c := range b {
		for range 8 {
			l = append(l, int(c%2))
			c /= 2
		}
	}
	return l
}

// packed returns the bytes whose bits are l.
func packed(l []int) []byte {
	b := make([]byte, len(l)/8)
	worth := byte(1)
	for i, d := range l {
		b[i/8] += byte(d) * worth
		worth *= 2
		if i%8 == 7 {
			worth = 1
		}
	}
	return b
}

// inRange returns the numbers of the bits d from from to to, as the chapter says which those are.
func inRange(b []byte, from, to, d int) []int {
	var l []int
	for i, x := range digits(b) {
		if x == d && from <= i && i < to {
			l = append(l, i)
		}
	}
	return l
}

// ofBits returns n bytes whose listed bits are 1.
func ofBits(n int, l ...int) []byte {
	d := make([]int, 8*n)
	for _, i := range l {
		d[i] = 1
	}
	return packed(d)
}

// mixed returns n bytes that differ.
func mixed(n int) []byte {
	b := make([]byte, n)
	for i := range b {
		b[i] = byte(i*i*37 + i*91 + 181)
	}
	return b
}

// roomy returns a copy of b behind whose end there are more bytes.
func roomy(b []byte, more byte) []byte {
	c := append(slices.Clone(b), bytes.Repeat([]byte{more}, 40)...)
	return c[:len(b)]
}

// untouched fails the test if b is not want, or if roomy's bytes behind it have changed.
func untouched(t *testing.T, b, want []byte, more byte) {
	t.Helper()
	if !bytes.Equal(b, want) {
		t.Errorf("the argument became %v, was %v", b, want)
	}
	if !bytes.Equal(b[len(b):cap(b)][:40], bytes.Repeat([]byte{more}, 40)) {
		t.Error("bytes behind the argument's end were changed")
	}
}

// several are bytes of many kinds: none, all 0, all 255, single bits of 1 and of 0, others; short ones, of the limit, and beyond it.
func several() [][]byte {
	l := [][]byte{nil, {}, {5, 128}, {255, 1}, {0, 255}, {1, 2, 3}, ofBits(5, 0, 7, 8, 20, 39), mixed(9)}
	for _, n := range []int{1, 2, 3} {
		l = append(l, make([]byte, n), bytes.Repeat([]byte{255}, n))
	}
	for i := range 16 {
		one := ofBits(2, i)
		l = append(l, one, []byte{255 - one[0], 255 - one[1]})
	}
	return l
}

func many() [][]byte {
	var l [][]byte
	for _, n := range []int{most - 1, most, most + 1, 2*most + 3} {
		l = append(l, make([]byte, n), bytes.Repeat([]byte{255}, n), mixed(n), ofBits(n, 8*n-1), ofBits(n, 0))
	}
	return l
}

// outside are numbers that no bit of n bytes has; some become one if they are cut to fewer bits, or have their sign taken away.
func outside(n int) []int {
	return []int{
		-1, -2, -7, -8, -9, -8 * n, -8*n - 1, -8*n + 1, -1 << 31, -1 << 32, 1 - 1<<32, math.MinInt, math.MinInt + 1, math.MinInt + 8,
		8 * n, 8*n + 1, 8*n + 7, 8*n + 8, 16*n + 1, 64*n + 64, 1<<16 + 8*n, 1<<31 - 1, 1 << 31, 1 << 32, 1<<32 + 1, math.MaxInt - 8, math.MaxInt - 1, math.MaxInt,
	}
}

// ends are numbers for the ends of ranges about n bytes.
func ends(n int) []int {
	l := outside(n)
	for i := range 8 * n {
		l = append(l, i)
	}
	return l
}

func noBytes(t *testing.T, b []byte, e, want api.Errno) {
	t.Helper()
	if len(b) != 0 || e != want {
		t.Errorf("got %d bytes, error %d; want none, error %d", len(b), e, want)
	}
}

func isCount(t *testing.T, b []byte, from, to, want int) {
	t.Helper()
	if n := bits.Count(b, from, to); n != want {
		t.Errorf("Count of %d bytes from %d to %d: got %d, want %d", len(b), from, to, n, want)
	}
}

func isFirst(t *testing.T, b []byte, from, to int, on bool, want int) {
	t.Helper()
	if i, is := bits.First(b, from, to, on); i != want || !is {
		t.Errorf("First of %d bytes from %d to %d, %v: got %d, %v; want %d", len(b), from, to, on, i, is, want)
	}
}

func isNoFirst(t *testing.T, b []byte, from, to int, on bool) {
	t.Helper()
	if i, is := bits.First(b, from, to, on); i != 0 || is {
		t.Errorf("First of %d bytes from %d to %d, %v: got %d, %v; want none", len(b), from, to, on, i, is)
	}
}

// isRange holds Count and both ways of First against what the chapter says of a range.
func isRange(t *testing.T, b []byte, from, to int) {
	t.Helper()
	isCount(t, b, from, to, len(inRange(b, from, to, 1)))
	for d, on := range []bool{false, true} {
		if l := inRange(b, from, to, d); len(l) > 0 {
			isFirst(t, b, from, to, on, l[0])
		} else {
			isNoFirst(t, b, from, to, on)
		}
	}
}

// P8.1

func TestHasOfKnownBits(t *testing.T) {
	for _, i := range []int{0, 2, 15} {
		if !bits.Has([]byte{5, 128}, i) {
			t.Errorf("bit %d is missing", i)
		}
	}
	for _, i := range []int{1, 3, 4, 5, 6, 7, 8, 9, 10, 11, 12, 13, 14} {
		if bits.Has([]byte{5, 128}, i) {
			t.Errorf("bit %d is there", i)
		}
	}
}

func TestHasOfEveryBit(t *testing.T) {
	for _, b := range slices.Concat(several(), many()) {
		for i, d := range digits(b) {
			if bits.Has(b, i) != (d == 1) {
				t.Errorf("bit %d of %d bytes: got %v, want %d", i, len(b), bits.Has(b, i), d)
			}
		}
	}
}

func TestHasOfEveryBitOfEveryByte(t *testing.T) {
	for c := range 256 {
		b := []byte{byte(255 - c), byte(c), byte(255 - c)}
		for k, d := range digits(b[1:2]) {
			if bits.Has(b, 8+k) != (d == 1) || bits.Has(b, k) == (d == 1) || bits.Has(b, 16+k) == (d == 1) {
				t.Errorf("bit %d of byte %d: got %v", k, c, bits.Has(b, 8+k))
			}
		}
	}
}

func TestHasOfNoBit(t *testing.T) {
	for _, n := range []int{0, 1, 2, 64, most, most + 1, 2 * most} {
		// What lies behind the end is no bit of b.
		b := roomy(bytes.Repeat([]byte{255}, n), 255)
		for _, i := range outside(n) {
			if bits.Has(b, i) {
				t.Errorf("%d bytes have bit %d", n, i)
			}
		}
	}
	for _, i := range outside(0) {
		if bits.Has(nil, i) {
			t.Errorf("nil has bit %d", i)
		}
	}
	if bits.Has(nil, 0) || bits.Has([]byte{}, 0) {
		t.Error("no bytes have bit 0")
	}
}

func TestExampleOfWith(t *testing.T) {
	if b, e := bits.With([]byte{0, 0}, 9, true); e != api.OK || !bytes.Equal(b, []byte{0, 2}) {
		t.Errorf("got %v, error %d", b, e)
	}
	if b, e := bits.With([]byte{255, 255}, 9, false); e != api.OK || !bytes.Equal(b, []byte{255, 253}) {
		t.Errorf("got %v, error %d", b, e)
	}
}

// withIs fails the test if With does not return b with the one bit set to d.
func withIs(t *testing.T, b []byte, i, d int) {
	t.Helper()
	want := digits(b)
	want[i] = d
	if c, e := bits.With(b, i, d == 1); e != api.OK || !bytes.Equal(c, packed(want)) {
		t.Errorf("%d bytes with bit %d as %d: got %v, error %d", len(b), i, d, c, e)
	}
}

// Bits that are as asked already are among them.
func TestWithOfEveryBit(t *testing.T) {
	for _, b := range several() {
		for i := range 8 * len(b) {
			withIs(t, b, i, 0)
			withIs(t, b, i, 1)
		}
	}
}

func TestWithOfEveryByte(t *testing.T) {
	for c := range 256 {
		for i := range 24 {
			b := []byte{byte(c), byte(255 - c), byte(c)}
			withIs(t, b, i, 0)
			withIs(t, b, i, 1)
		}
	}
}

func TestWithUpToTheLimit(t *testing.T) {
	for _, b := range [][]byte{make([]byte, most), bytes.Repeat([]byte{255}, most), mixed(most), mixed(most - 1)} {
		for _, i := range []int{0, 1, 7, 8, 9, 255, 256, 257, 2048, 8*len(b) - 9, 8*len(b) - 8, 8*len(b) - 1} {
			withIs(t, b, i, 0)
			withIs(t, b, i, 1)
		}
	}
}

// Bytes behind the end don't count towards the limit, and are no part of what is returned.
func TestWithDoesNotReadBeyondTheEnd(t *testing.T) {
	for _, more := range []byte{0, 255} {
		for _, n := range []int{1, 2, most - 1, most} {
			b := roomy(mixed(n), more)
			for _, i := range []int{0, 8*n - 1} {
				withIs(t, b, i, 0)
				withIs(t, b, i, 1)
			}
			untouched(t, b, mixed(n), more)
		}
	}
}

func TestWithRefusesMoreBits(t *testing.T) {
	for _, n := range []int{most + 1, most + 2, 2 * most, 8 * most, 8*most + 8, 1 << 16} {
		for _, i := range []int{0, 1, 8*most - 1, 8 * most, 8*n - 8, 8*n - 1} {
			for _, on := range []bool{false, true} {
				// One of the two would change nothing.
				b, e := bits.With(make([]byte, n), i, on)
				noBytes(t, b, e, api.ErrLong)
			}
		}
	}
}

// Bytes beyond the limit tell that ErrArg comes ahead of ErrLong.
func TestWithRefusesWhatIsNoBit(t *testing.T) {
	for _, n := range []int{0, 1, 2, 64, most - 1, most, most + 1, 2 * most} {
		b := roomy(mixed(n), 238)
		for _, i := range outside(n) {
			for _, on := range []bool{false, true} {
				c, e := bits.With(b, i, on)
				noBytes(t, c, e, api.ErrArg)
			}
		}
		untouched(t, b, mixed(n), 238)
	}
	for _, i := range append(outside(0), 0, 1, 7, 8) {
		for _, b := range [][]byte{nil, {}} {
			c, e := bits.With(b, i, true)
			noBytes(t, c, e, api.ErrArg)
		}
	}
}

func TestWithReturnsNewMemory(t *testing.T) {
	for _, n := range []int{1, 2, 9, most} {
		for _, on := range []bool{false, true} {
			for _, i := range []int{0, 3, 8*n - 1} {
				b := roomy(mixed(n), 238)
				c, _ := bits.With(b, i, on)
				d, _ := bits.With(b, i, on)
				want := slices.Clone(d)
				untouched(t, b, mixed(n), 238)
				c = c[:cap(c)]
				for k := range c {
					c[k] ^= 255
				}
				untouched(t, b, mixed(n), 238)
				for k := range b {
					b[k] ^= 255
				}
				if !bytes.Equal(d, want) {
					t.Errorf("%d bytes with bit %d changed with the argument, or another result", n, i)
				}
			}
		}
	}
}

// P8.2

func TestCountOfKnownRanges(t *testing.T) {
	for _, x := range []struct {
		b              []byte
		from, to, want int
	}{
		{nil, 0, 8, 0},
		{[]byte{}, 0, 8, 0},
		{nil, math.MinInt, math.MaxInt, 0},
		{[]byte{5, 128}, 0, 16, 3},
		{[]byte{5, 128}, 0, 0, 0},
		{[]byte{5, 128}, 0, 1, 1},
		{[]byte{5, 128}, 0, 2, 1},
		{[]byte{5, 128}, 0, 3, 2},
		{[]byte{5, 128}, 1, 16, 2},
		{[]byte{5, 128}, 2, 15, 1},
		{[]byte{5, 128}, 3, 15, 0},
		{[]byte{5, 128}, 15, 16, 1},
		{[]byte{5, 128}, 15, 15, 0},
		{[]byte{5, 128}, 16, 15, 0},
		{[]byte{5, 128}, 16, 0, 0},
		{[]byte{5, 128}, 16, 24, 0},
		{[]byte{5, 128}, 16, math.MaxInt, 0},
		{[]byte{5, 128}, -9, 16, 3},
		{[]byte{5, 128}, -9, 1, 1},
		{[]byte{5, 128}, -9, 0, 0},
		{[]byte{5, 128}, -9, -2, 0},
		{[]byte{5, 128}, 1, 99, 2},
		{[]byte{5, 128}, -1, 17, 3},
		{[]byte{5, 128}, math.MinInt, math.MaxInt, 3},
		{[]byte{5, 128}, math.MaxInt, math.MinInt, 0},
		{[]byte{5, 128}, 1, math.MinInt, 0},
		{[]byte{5, 128}, 2, math.MinInt + 1, 0},
		{[]byte{5, 128}, math.MaxInt, math.MaxInt, 0},
		{[]byte{5, 128}, math.MinInt, math.MinInt, 0},
		{[]byte{5, 128}, math.MinInt, 3, 2},
		{[]byte{5, 128}, math.MaxInt, 3, 0},
		{[]byte{5, 128}, 2, math.MaxInt, 2},
		{[]byte{255, 255, 255}, 0, 24, 24},
		{[]byte{255, 255, 255}, 7, 17, 10},
	} {
		isCount(t, x.b, x.from, x.to, x.want)
	}
}

func TestFirstOfKnownRanges(t *testing.T) {
	zeros, ones := make([]byte, 3), []byte{255, 255, 255}
	isFirst(t, []byte{255, 1}, 0, 16, false, 9)
	isFirst(t, []byte{255, 1}, 0, 16, true, 0)
	isFirst(t, []byte{255, 1}, 9, 16, false, 9)
	isFirst(t, []byte{255, 1}, 8, 16, true, 8)
	isNoFirst(t, []byte{255, 1}, 9, 16, true)
	isNoFirst(t, []byte{255, 1}, 0, 9, false)
	isFirst(t, zeros, 0, 24, false, 0)
	isFirst(t, zeros, 11, 12, false, 11)
	isFirst(t, zeros, -11, 12, false, 0)
	isFirst(t, zeros, 23, math.MaxInt, false, 23)
	isFirst(t, zeros, math.MinInt, math.MaxInt, false, 0)
	isNoFirst(t, zeros, math.MinInt, math.MaxInt, true)
	isFirst(t, ones, 0, 24, true, 0)
	isFirst(t, ones, 11, 12, true, 11)
	isFirst(t, ones, -11, 12, true, 0)
	isFirst(t, ones, 23, math.MaxInt, true, 23)
	isFirst(t, ones, math.MinInt, math.MaxInt, true, 0)
	isNoFirst(t, ones, math.MinInt, math.MaxInt, false)
	for _, on := range []bool{false, true} {
		for _, b := range [][]byte{nil, {}, zeros, ones} {
			isNoFirst(t, b, 24, 32, on)
			isNoFirst(t, b, 24, math.MaxInt, on)
			isNoFirst(t, b, math.MaxInt, math.MaxInt, on)
			isNoFirst(t, b, math.MaxInt, math.MinInt, on)
			isNoFirst(t, b, 1, math.MinInt, on)
			isNoFirst(t, b, math.MinInt, math.MinInt, on)
			isNoFirst(t, b, math.MinInt, 0, on)
			isNoFirst(t, b, -8, 0, on)
			isNoFirst(t, b, 5, 5, on)
			isNoFirst(t, b, 6, 5, on)
		}
		isNoFirst(t, nil, math.MinInt, math.MaxInt, on)
		isNoFirst(t, []byte{}, 0, 8, on)
	}
}

func TestCountAndFirstOfEveryRange(t *testing.T) {
	for _, b := range several() {
		for _, from := range ends(len(b)) {
			for _, to := range ends(len(b)) {
				isRange(t, b, from, to)
			}
		}
	}
}

// More than 2^12 bits are counted as well.
func TestCountAndFirstOfManyBits(t *testing.T) {
	for _, b := range many() {
		n := 8 * len(b)
		l := []int{math.MinInt, -1, 0, 1, 9, 4095, 4096, 4097, n - 8, n - 1, n, n + 1, 1 << 32, math.MaxInt}
		for _, from := range l {
			for _, to := range l {
				isRange(t, b, from, to)
			}
		}
	}
}

func TestListOfKnownBits(t *testing.T) {
	for _, x := range []struct {
		b    []byte
		want []int
	}{
		{nil, nil},
		{[]byte{}, nil},
		{[]byte{0}, nil},
		{[]byte{5, 128}, []int{0, 2, 15}},
		{[]byte{0, 0, 1}, []int{16}},
		{[]byte{128, 1}, []int{7, 8}},
		{[]byte{255, 0, 129}, []int{0, 1, 2, 3, 4, 5, 6, 7, 16, 23}},
		{make([]byte, most), nil},
		{ofBits(most+1, 0, 4095, 4096, 4103), []int{0, 4095, 4096, 4103}},
	} {
		if l := bits.List(x.b); !slices.Equal(l, x.want) {
			t.Errorf("List of %v: got %v, want %v", x.b, l, x.want)
		}
	}
}

func TestListOfEveryTwoBytes(t *testing.T) {
	for n := range 1 << 16 {
		b := []byte{byte(n), byte(n >> 8)}
		if l := bits.List(b); !slices.Equal(l, inRange(b, 0, 16, 1)) {
			t.Errorf("List of %v: got %v", b, l)
		}
	}
}

func TestListOfManyBits(t *testing.T) {
	for _, b := range many() {
		if l := bits.List(b); !slices.Equal(l, inRange(b, 0, 8*len(b), 1)) {
			t.Errorf("List of %d bytes: got %d bits", len(b), len(l))
		}
	}
}

func TestListReturnsNewMemory(t *testing.T) {
	b := mixed(9)
	want := inRange(b, 0, 72, 1)
	one, other := bits.List(b), bits.List(b)
	one = one[:cap(one)]
	for i := range one {
		one[i] = 77
	}
	if !slices.Equal(other, want) || !slices.Equal(bits.List(b), want) {
		t.Errorf("a result changed with another one: %v", other)
	}
}

// Bytes behind the end, whatever they are, are neither read nor changed.
func TestBitsEndWithTheirBytes(t *testing.T) {
	for _, more := range []byte{0, 255} {
		for _, want := range [][]byte{{}, {0}, {255}, {5, 128}} {
			b, n := roomy(want, more), 8*len(want)
			isRange(t, b, 0, n+100)
			isRange(t, b, n, n+100)
			isNoFirst(t, b, n, math.MaxInt, true)
			isNoFirst(t, b, n, math.MaxInt, false)
			if l := bits.List(b); !slices.Equal(l, inRange(want, 0, n, 1)) {
				t.Errorf("List of %v: got %v", want, l)
			}
			untouched(t, b, want, more)
		}
	}
}

// P8.3

func TestWithChangesTheGivenBitOnly(t *testing.T) {
	for _, b := range several() {
		for i := range 8 * len(b) {
			for _, on := range []bool{false, true} {
				c, e := bits.With(b, i, on)
				if e != api.OK || len(c) != len(b) || bits.Has(c, i) != on {
					t.Errorf("%v with bit %d as %v: got %v, error %d", b, i, on, c, e)
				}
				for _, k := range ends(len(b)) {
					if k != i && bits.Has(c, k) != bits.Has(b, k) {
						t.Errorf("%v with bit %d as %v: bit %d changed", b, i, on, k)
					}
				}
			}
		}
	}
}

func TestCountAndFirstAgreeWithList(t *testing.T) {
	for _, b := range several() {
		for _, from := range ends(len(b)) {
			for _, to := range ends(len(b)) {
				l := slices.DeleteFunc(bits.List(b), func(i int) bool { return i < from || i >= to })
				isCount(t, b, from, to, len(l))
				if len(l) > 0 {
					isFirst(t, b, from, to, true, l[0])
				} else {
					isNoFirst(t, b, from, to, true)
				}
			}
		}
	}
}

// Bits set one after another, and taken away again in another order, are those that are listed.
func TestBitsSetInTurn(t *testing.T) {
	b := make([]byte, most)
	var l []int
	for k := range 300 {
		i := k * 1021 % api.MaxBits
		b, _ = bits.With(b, i, true)
		l = append(l, i)
	}
	slices.Sort(l)
	if !slices.Equal(bits.List(b), l) || bits.Count(b, 0, api.MaxBits) != 300 {
		t.Errorf("%d bits are set, %d are listed", bits.Count(b, 0, api.MaxBits), len(bits.List(b)))
	}
	for k := range 300 {
		b, _ = bits.With(b, l[k*7%300], false)
		isCount(t, b, 0, api.MaxBits, 299-k)
	}
	isNoFirst(t, b, 0, api.MaxBits, true)
}

func TestTheSameCallsReturnTheSame(t *testing.T) {
	for _, b := range several() {
		one, e := bits.With(b, 3, true)
		other, f := bits.With(slices.Clone(b), 3, true)
		if e != f || !bytes.Equal(one, other) || !slices.Equal(bits.List(b), bits.List(slices.Clone(b))) {
			t.Errorf("two calls for %v differ", b)
		}
	}
}
