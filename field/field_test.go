package field_test

import (
	"bytes"
	"math"
	"slices"
	"testing"

	"moat/api"
	"moat/field"
)

// wrongSizes are sizes that no integer has.
var wrongSizes = []int{math.MinInt, -8, -1, 0, 9, 16, 64, math.MaxInt}

// largest returns the largest integer that fits in size bytes.
func largest(size int) uint64 {
	if size == 8 {
		return math.MaxUint64
	}
	return 1<<(8*size) - 1
}

// samples returns integers that fit in size bytes, among them the edges.
func samples(size int) []uint64 {
	l := []uint64{0, 1, 127, 128, 255, largest(size), largest(size) - 1, largest(size)/2 + 1}
	for k := range size {
		l = append(l, 1<<(8*k), 0xa5<<(8*k))
	}
	return append(l, 0x8877665544332211&largest(size))
}

// spelled writes n in size bytes by division, so as to share nothing with the package.
func spelled(n uint64, size int) []byte {
	var b []byte
	for len(b) < size {
		b = append(b, byte(n%256))
		n /= 256
	}
	return b
}

// counted returns n different-looking bytes, none of which is 0.
func counted(n int) []byte {
	b := make([]byte, n)
	for i := range b {
		b[i] = byte(i%251 + 1)
	}
	return b
}

// roomy returns a copy of b behind whose end there are bytes 238.
func roomy(b []byte) []byte {
	c := append(slices.Clone(b), bytes.Repeat([]byte{238}, 40)...)
	return c[:len(b)]
}

// untouched fails the test if b is not want, or if roomy's bytes behind it have changed.
func untouched(t *testing.T, b, want []byte) {
	t.Helper()
	if !bytes.Equal(b, want) {
		t.Errorf("the argument became %v, was %v", b, want)
	}
	for _, c := range b[len(b):cap(b)][:40] {
		if c != 238 {
			t.Fatal("bytes behind the argument's end were changed")
		}
	}
}

func noInteger(t *testing.T, n uint64, e, want api.Errno) {
	t.Helper()
	if n != 0 || e != want {
		t.Errorf("got %d, error %d; want 0, error %d", n, e, want)
	}
}

func noBytes(t *testing.T, b []byte, e, want api.Errno) {
	t.Helper()
	if len(b) != 0 || e != want {
		t.Errorf("got %d bytes, error %d; want none, error %d", len(b), e, want)
	}
}

func noList(t *testing.T, l []uint64, e, want api.Errno) {
	t.Helper()
	if len(l) != 0 || e != want {
		t.Errorf("got %d integers, error %d; want none, error %d", len(l), e, want)
	}
}

// P1.1

func TestGetReadsLeastSignificantByteFirst(t *testing.T) {
	b := []byte{9, 0x11, 0x22, 0x33, 0x44, 0x55, 0x66, 0x77, 0x88, 9}
	want := []uint64{0x11, 0x2211, 0x332211, 0x44332211, 0x5544332211, 0x665544332211, 0x77665544332211, 0x8877665544332211}
	for i, w := range want {
		if n, e := field.Get(b, 1, i+1); n != w || e != api.OK {
			t.Errorf("size %d: got %x, error %d; want %x", i+1, n, e, w)
		}
	}
}

func TestGetAtEveryOffset(t *testing.T) {
	b := counted(20)
	for size := 1; size <= 8; size++ {
		for at := range len(b) - size + 1 {
			n, e := field.Get(b, at, size)
			if e != api.OK || !bytes.Equal(spelled(n, size), b[at:at+size]) || n > largest(size) {
				t.Errorf("size %d, at %d: got %x, error %d", size, at, n, e)
			}
		}
	}
}

func TestGetRefusesSizes(t *testing.T) {
	for _, size := range wrongSizes {
		for _, b := range [][]byte{nil, {}, {1}, counted(100)} {
			n, e := field.Get(b, 0, size)
			noInteger(t, n, e, api.ErrArg)
		}
	}
}

func TestGetRefusesOffsets(t *testing.T) {
	b := roomy(counted(12)) // what lies behind the end doesn't count
	for size := 1; size <= 8; size++ {
		for _, at := range []int{math.MinInt, -size, -1, 13 - size, 12, 13, math.MaxInt - size + 1, math.MaxInt} {
			n, e := field.Get(b, at, size)
			noInteger(t, n, e, api.ErrArg)
		}
		for _, short := range [][]byte{nil, {}, b[:size-1]} {
			n, e := field.Get(short, 0, size)
			noInteger(t, n, e, api.ErrArg)
		}
	}
}

func TestGetReadsAllOfASlice(t *testing.T) {
	for size := 1; size <= 8; size++ {
		b := counted(size)
		if n, e := field.Get(b, 0, size); e != api.OK || !bytes.Equal(spelled(n, size), b) {
			t.Errorf("size %d: got %x, error %d", size, n, e)
		}
	}
}

func TestGetLeavesItsArgument(t *testing.T) {
	b := roomy(counted(9))
	field.Get(b, 1, 8)
	untouched(t, b, counted(9))
}

func TestExampleOfSetAndGet(t *testing.T) {
	b, e := field.Set([]byte{9, 9, 9, 9}, 1, 2, 258)
	if e != api.OK || !bytes.Equal(b, []byte{9, 2, 1, 9}) {
		t.Errorf("Set: got %v, error %d", b, e)
	}
	if n, e := field.Get(b, 1, 2); n != 258 || e != api.OK {
		t.Errorf("Get: got %d, error %d", n, e)
	}
}

func TestSetStoresLeastSignificantByteFirst(t *testing.T) {
	for size := 1; size <= 8; size++ {
		for _, n := range samples(size) {
			b, e := field.Set(make([]byte, size), 0, size, n)
			if e != api.OK || !bytes.Equal(b, spelled(n, size)) {
				t.Errorf("size %d, %x: got %v, error %d", size, n, b, e)
			}
		}
	}
}

func TestSetRefusesSizes(t *testing.T) {
	for _, size := range wrongSizes {
		for _, b := range [][]byte{nil, {}, {1}, counted(100)} {
			for _, n := range []uint64{0, math.MaxUint64} {
				c, e := field.Set(b, 0, size, n)
				noBytes(t, c, e, api.ErrArg)
			}
		}
	}
}

// The integer that fits in no fewer than 8 bytes tells that ErrArg comes ahead of ErrLong.
func TestSetRefusesOffsets(t *testing.T) {
	b := roomy(counted(12))
	for size := 1; size <= 8; size++ {
		for _, n := range []uint64{0, math.MaxUint64} {
			for _, at := range []int{math.MinInt, -size, -1, 13 - size, 12, 13, math.MaxInt - size + 1, math.MaxInt} {
				c, e := field.Set(b, at, size, n)
				noBytes(t, c, e, api.ErrArg)
			}
			for _, short := range [][]byte{nil, {}, b[:size-1]} {
				c, e := field.Set(short, 0, size, n)
				noBytes(t, c, e, api.ErrArg)
			}
		}
	}
	untouched(t, b, counted(12))
}

func TestSetRefusesLongIntegers(t *testing.T) {
	for size := 1; size <= 7; size++ {
		for _, n := range []uint64{largest(size) + 1, largest(size) + 2, 1 << 63, math.MaxUint64} {
			b, e := field.Set(counted(10), 1, size, n)
			noBytes(t, b, e, api.ErrLong)
		}
		if b, e := field.Set(counted(10), 1, size, largest(size)); e != api.OK || len(b) != 10 {
			t.Errorf("size %d: the largest integer: %v, error %d", size, b, e)
		}
	}
}

func TestSetHasNoLimitOfBytes(t *testing.T) {
	b, e := field.Set(make([]byte, 2*api.MaxText), 2*api.MaxText-1, 1, 7)
	if e != api.OK || len(b) != 2*api.MaxText || b[2*api.MaxText-1] != 7 {
		t.Errorf("%d bytes, error %d", len(b), e)
	}
	if n, e := field.Get(b, 2*api.MaxText-1, 1); n != 7 || e != api.OK {
		t.Errorf("got %d, error %d", n, e)
	}
}

func TestSetReturnsNewMemory(t *testing.T) {
	b := roomy(counted(12))
	c, _ := field.Set(b, 2, 4, 0)
	d, _ := field.Set(b, 2, 4, 0)
	untouched(t, b, counted(12))
	clear(c[:cap(c)])
	untouched(t, b, counted(12))
	if len(d) != 12 || d[0] != 1 || d[11] != 12 {
		t.Errorf("a result changed with another one: %v", d)
	}
}

// P1.2

func TestExampleOfLay(t *testing.T) {
	b, e := field.Lay(2, []uint64{1, 256})
	if e != api.OK || !bytes.Equal(b, []byte{1, 0, 0, 1}) {
		t.Errorf("got %v, error %d", b, e)
	}
}

func TestLayStoresInOrder(t *testing.T) {
	for size := 1; size <= 8; size++ {
		l := samples(size)
		var want []byte
		for _, n := range l {
			want = append(want, spelled(n, size)...)
		}
		if b, e := field.Lay(size, l); e != api.OK || !bytes.Equal(b, want) {
			t.Errorf("size %d: got %v, error %d; want %v", size, b, e, want)
		}
	}
}

func TestLayOfNothing(t *testing.T) {
	for size := 1; size <= 8; size++ {
		for _, l := range [][]uint64{nil, {}} {
			b, e := field.Lay(size, l)
			noBytes(t, b, e, api.OK)
		}
	}
}

func TestLayRefusesSizes(t *testing.T) {
	for _, size := range wrongSizes {
		for _, l := range [][]uint64{nil, {}, {0}, {math.MaxUint64}, make([]uint64, api.MaxText+1)} {
			b, e := field.Lay(size, l)
			noBytes(t, b, e, api.ErrArg)
		}
	}
}

func TestLayRefusesLongIntegers(t *testing.T) {
	for size := 1; size <= 7; size++ {
		for at := range 3 {
			l := []uint64{largest(size), 0, largest(size)}
			for _, n := range []uint64{largest(size) + 1, math.MaxUint64} {
				l[at] = n
				b, e := field.Lay(size, l)
				noBytes(t, b, e, api.ErrLong)
			}
		}
	}
}

func TestLayUpToTheLimit(t *testing.T) {
	for size := 1; size <= 8; size++ {
		n := api.MaxText / size // 4,095 bytes with size 3, 5 and 7 at most
		b, e := field.Lay(size, make([]uint64, n))
		if e != api.OK || len(b) != n*size {
			t.Errorf("size %d: %d bytes, error %d", size, len(b), e)
		}
		for _, more := range []int{n + 1, n + 2, 3 * n, api.MaxText + 1} {
			b, e := field.Lay(size, make([]uint64, more))
			noBytes(t, b, e, api.ErrLong)
		}
	}
}

func TestLayLeavesItsArgument(t *testing.T) {
	l := []uint64{1, 2, 3, 238, 238}
	b, _ := field.Lay(8, l[:3])
	c, _ := field.Lay(8, l[:3])
	clear(b[:cap(b)])
	if !slices.Equal(l, []uint64{1, 2, 3, 238, 238}) {
		t.Errorf("the argument became %v", l)
	}
	if len(c) != 24 || c[16] != 3 {
		t.Errorf("a result changed with another one: %v", c)
	}
}

func TestTakeReadsInOrder(t *testing.T) {
	b := counted(48)
	for _, size := range []int{1, 2, 3, 4, 6, 8} {
		l, e := field.Take(size, b)
		if e != api.OK || len(l) != 48/size {
			t.Fatalf("size %d: %d integers, error %d", size, len(l), e)
		}
		for i, n := range l {
			if !bytes.Equal(spelled(n, size), b[i*size:(i+1)*size]) || n > largest(size) {
				t.Errorf("size %d: integer %d is %x", size, i, n)
			}
		}
	}
	if l, e := field.Take(5, counted(10)); e != api.OK || !slices.Equal(l, []uint64{0x0504030201, 0x0a09080706}) {
		t.Errorf("size 5: got %x, error %d", l, e)
	}
	if l, e := field.Take(7, counted(7)); e != api.OK || !slices.Equal(l, []uint64{0x07060504030201}) {
		t.Errorf("size 7: got %x, error %d", l, e)
	}
}

func TestTakeOfNothing(t *testing.T) {
	for size := 1; size <= 8; size++ {
		for _, b := range [][]byte{nil, {}} {
			l, e := field.Take(size, b)
			noList(t, l, e, api.OK)
		}
	}
}

func TestTakeRefusesSizes(t *testing.T) {
	for _, size := range wrongSizes {
		for _, n := range []int{0, 1, 9, 64, api.MaxText, 9 * api.MaxText} {
			l, e := field.Take(size, make([]byte, n))
			noList(t, l, e, api.ErrArg)
		}
	}
}

// Lengths beyond the limit tell that ErrArg comes ahead of ErrLong.
func TestTakeRefusesParts(t *testing.T) {
	for size := 2; size <= 8; size++ {
		for _, n := range []int{1, size - 1, size + 1, 2*size - 1, 2*size + 1, api.MaxText*size + 1, api.MaxText*size - 1} {
			l, e := field.Take(size, make([]byte, n))
			noList(t, l, e, api.ErrArg)
		}
	}
}

func TestTakeUpToTheLimit(t *testing.T) {
	for size := 1; size <= 8; size++ {
		n := api.MaxText / size
		l, e := field.Take(size, make([]byte, n*size))
		if e != api.OK || len(l) != n {
			t.Errorf("size %d: %d integers, error %d", size, len(l), e)
		}
		for _, more := range []int{n + 1, n + 2, 3 * n} {
			l, e := field.Take(size, make([]byte, more*size))
			noList(t, l, e, api.ErrLong)
		}
	}
}

func TestTakeLeavesItsArgument(t *testing.T) {
	b := roomy(counted(12))
	l, _ := field.Take(4, b)
	m, _ := field.Take(4, b)
	clear(l[:cap(l)])
	untouched(t, b, counted(12))
	if !slices.Equal(m, []uint64{0x04030201, 0x08070605, 0x0c0b0a09}) {
		t.Errorf("a result changed with another one: %x", m)
	}
}

// P1.3

func TestFillPads(t *testing.T) {
	for _, n := range []int{0, 1, 2, 63, 64, 100, api.MaxText - 1, api.MaxText} {
		for _, size := range []int{n, n + 1, n + 40, api.MaxText} {
			if size > api.MaxText {
				continue
			}
			b, e := field.Fill(roomy(counted(n)), size)
			want := append(counted(n), make([]byte, size-n)...)
			if e != api.OK || !bytes.Equal(b, want) {
				t.Errorf("%d bytes to %d: %d bytes, error %d", n, size, len(b), e)
			}
		}
	}
}

func TestFillOfNothing(t *testing.T) {
	for _, b := range [][]byte{nil, {}} {
		c, e := field.Fill(b, 0)
		noBytes(t, c, e, api.OK)
		if c, e := field.Fill(b, 3); e != api.OK || !bytes.Equal(c, []byte{0, 0, 0}) {
			t.Errorf("got %v, error %d", c, e)
		}
	}
}

// Bytes beyond the limit tell that ErrArg comes ahead of ErrLong.
func TestFillRefusesNegativeSizes(t *testing.T) {
	for _, size := range []int{math.MinInt, -api.MaxText, -2, -1} {
		for _, n := range []int{0, 1, api.MaxText + 1} {
			b, e := field.Fill(make([]byte, n), size)
			noBytes(t, b, e, api.ErrArg)
		}
	}
}

func TestFillRefusesLongSizes(t *testing.T) {
	for _, size := range []int{api.MaxText + 1, 2 * api.MaxText, math.MaxInt} {
		for _, n := range []int{0, 1, api.MaxText, api.MaxText + 1} {
			b, e := field.Fill(make([]byte, n), size)
			noBytes(t, b, e, api.ErrLong)
		}
	}
}

func TestFillRefusesLongBytes(t *testing.T) {
	for _, size := range []int{0, 1, 2, 64, api.MaxText} {
		for _, n := range []int{size + 1, size + 2, api.MaxText + 1} {
			b, e := field.Fill(counted(n), size)
			noBytes(t, b, e, api.ErrLong)
		}
	}
}

func TestFillReturnsNewMemory(t *testing.T) {
	b := roomy(counted(12))
	for _, size := range []int{12, 20} {
		c, _ := field.Fill(b, size)
		d, _ := field.Fill(b, size)
		clear(c[:cap(c)])
		untouched(t, b, counted(12))
		if len(d) != size || d[11] != 12 {
			t.Errorf("a result changed with another one: %v", d)
		}
		for i := range d[:cap(d)] {
			d[:cap(d)][i] = 7
		}
		untouched(t, b, counted(12))
	}
}

// P1.4

func TestGetReturnsWhatSetStored(t *testing.T) {
	for size := 1; size <= 8; size++ {
		for _, n := range samples(size) {
			for at := range 13 - size {
				b, e := field.Set(counted(12), at, size, n)
				if m, f := field.Get(b, at, size); e != api.OK || f != api.OK || m != n {
					t.Errorf("size %d, at %d, %x: got %x, errors %d %d", size, at, n, m, e, f)
				}
			}
		}
	}
}

func TestSetChangesNoOtherBytes(t *testing.T) {
	for size := 1; size <= 8; size++ {
		for _, n := range samples(size) {
			for at := range 13 - size {
				b, e := field.Set(counted(12), at, size, n)
				c := counted(12)
				if e != api.OK || len(b) != 12 || !bytes.Equal(b[:at], c[:at]) || !bytes.Equal(b[at+size:], c[at+size:]) {
					t.Errorf("size %d, at %d, %x: got %v, error %d", size, at, n, b, e)
				}
			}
		}
	}
}

func TestTakeReturnsWhatLayStored(t *testing.T) {
	for size := 1; size <= 8; size++ {
		full := make([]uint64, api.MaxText/size)
		for i := range full {
			full[i] = uint64(i) * 0x9e3779b97f4a7c15 & largest(size)
		}
		for _, l := range [][]uint64{nil, {0}, {largest(size)}, samples(size), full} {
			b, e := field.Lay(size, l)
			if m, f := field.Take(size, b); e != api.OK || f != api.OK || !slices.Equal(m, l) {
				t.Errorf("size %d: %d integers came back as %d, errors %d %d", size, len(l), len(m), e, f)
			}
		}
	}
}

func TestLayAgreesWithSet(t *testing.T) {
	for size := 1; size <= 8; size++ {
		l := samples(size)
		want := make([]byte, len(l)*size)
		for i, n := range l {
			want, _ = field.Set(want, i*size, size, n)
		}
		if b, e := field.Lay(size, l); e != api.OK || !bytes.Equal(b, want) {
			t.Errorf("size %d: got %v, error %d; want %v", size, b, e, want)
		}
	}
}
