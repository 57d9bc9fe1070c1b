package sum_test

import (
	"bytes"
	"hash/adler32"
	"math"
	"slices"
	"testing"

	"moat/api"
	"moat/sum"
)

const modulus = 65521

// repeated returns n bytes c.
func repeated(c byte, n int) []byte { return bytes.Repeat([]byte{c}, n) }

// counted returns n different-looking bytes, bytes 0 and 255 among them if there are enough.
func counted(n int) []byte {
	b := make([]byte, n)
	for i := range b {
		b[i] = byte(i*103 + i/256)
	}
	return b
}

// texts are bytes: none, one and many, with the smallest and the largest byte, and more than any text of the other layers has.
func texts() [][]byte {
	return [][]byte{
		nil, {}, {0}, {1}, {127}, {128}, {254}, {255},
		{0, 0}, {0, 255}, {255, 0}, {255, 255}, {1, 0, 1}, {0, 2, 0}, {1, 0, 0, 0}, []byte("abc"), []byte("Wikipedia"), []byte("some bytes"),
		repeated(0, 3), repeated(0, 4), repeated(255, 4), counted(63), counted(64), counted(256), repeated(0, 300), repeated(255, 300),
		lowest(0), lowest(1), lowest(modulus - 1), highest(0), highest(modulus - 1),
		counted(api.MaxText), counted(api.MaxText + 1), counted(20000), repeated(255, 20000),
	}
}

// lowest returns bytes whose checksum has lo as its lowest 16 bits: all other bytes than 255 are the last one.
func lowest(lo int) []byte {
	n := (lo - 1 + modulus) % modulus
	return append(repeated(255, n/255), byte(n%255))
}

// highest returns bytes whose checksum has hi as its highest 16 bits: a byte 0 adds 1, as lo stays 1 till the end.
func highest(hi int) []byte { return repeated(0, hi) }

// sums are sums whose halves are at the edges, both those that a checksum may have and those that it may not.
func sums() []uint32 {
	halves := []uint32{0, 1, 2, 14, 15, 255, 256, 32767, 32768, 65265, 65266, 65519, 65520, 65521, 65522, 65534, 65535}
	var l []uint32
	for _, hi := range halves {
		for _, lo := range halves {
			l = append(l, hi<<16|lo)
		}
	}
	return append(l, 0x024D0127, 0x11E60398, 0xFFF0FFF0, 0xFFF1FFF1, math.MaxUint32)
}

// continued adds each byte as often as it counts, so as to share no loop with the package.
func continued(s uint32, b []byte) uint32 {
	n := uint64(len(b))
	lo, hi := uint64(s&0xFFFF), uint64(s>>16)
	hi += n * lo
	for i, c := range b {
		lo += uint64(c)
		hi += (n - uint64(i)) * uint64(c)
	}
	return uint32(hi%modulus*65536 + lo%modulus)
}

// sealed is the bytes of b with the library's checksum behind them.
func sealed(b []byte) []byte {
	s := adler32.Checksum(b)
	return append(slices.Clone(b), byte(s), byte(s>>8), byte(s>>16), byte(s>>24))
}

// roomy returns a copy of b behind whose end there are bytes 238.
func roomy(b []byte) []byte {
	c := append(slices.Clone(b), repeated(238, 40)...)
	return c[:len(b)]
}

// untouched fails the test if b is not want, or if roomy's bytes behind it have changed.
func untouched(t *testing.T, b, want []byte) {
	t.Helper()
	if !bytes.Equal(b, want) {
		t.Errorf("the argument became %v, was %v", b, want)
	}
	if !bytes.Equal(b[len(b):cap(b)][:40], repeated(238, 40)) {
		t.Error("bytes behind the argument's end were changed")
	}
}

func isShut(t *testing.T, b []byte) {
	t.Helper()
	if c, e := sum.Open(b); len(c) != 0 || e != api.ErrSum {
		t.Errorf("Open of %d bytes %v..: got %d bytes, error %d", len(b), b[:min(len(b), 20)], len(c), e)
	}
}

func opens(t *testing.T, b, want []byte) {
	t.Helper()
	if c, e := sum.Open(b); e != api.OK || !bytes.Equal(c, want) {
		t.Errorf("Open of %d bytes %v..: got %d bytes, error %d", len(b), b[:min(len(b), 20)], len(c), e)
	}
}

// P3.1

func TestOfKnownBytes(t *testing.T) {
	for _, x := range []struct {
		b    []byte
		want uint32
	}{
		{nil, 1},
		{[]byte{}, 1},
		{[]byte{0}, 0x00010001},
		{[]byte{1}, 0x00020002},
		{[]byte{255}, 0x01000100},
		{[]byte{0, 255}, 0x01010100},
		{[]byte{255, 0}, 0x02000100},
		{[]byte{255, 255}, 0x02FF01FF},
		{[]byte("a"), 0x00620062},
		{[]byte("abc"), 0x024D0127},
		{[]byte("Wikipedia"), 0x11E60398},
		{repeated(0, modulus-1), 65520<<16 | 1},
		{repeated(0, modulus), 1},
		{repeated(0, modulus+1), 1<<16 | 1},
	} {
		if s := sum.Of(x.b); s != x.want {
			t.Errorf("%d bytes: got %08X, want %08X", len(x.b), s, x.want)
		}
	}
}

func TestOfIsTheLibrarys(t *testing.T) {
	for _, b := range texts() {
		if s := sum.Of(b); s != adler32.Checksum(b) {
			t.Errorf("%d bytes: got %08X, want %08X", len(b), s, adler32.Checksum(b))
		}
	}
	for n := range 600 {
		for _, b := range [][]byte{counted(n), repeated(0, n), repeated(255, n)} {
			if s := sum.Of(b); s != adler32.Checksum(b) {
				t.Fatalf("%d bytes: got %08X, want %08X", n, s, adler32.Checksum(b))
			}
		}
	}
}

func TestOfReachesTheEdgesOfBothHalves(t *testing.T) {
	for _, half := range []int{0, 1, 2, 254, 255, 256, 65519, 65520} {
		if s := sum.Of(lowest(half)); int(s&0xFFFF) != half {
			t.Errorf("lo is %d, want %d", s&0xFFFF, half)
		}
		if s := sum.Of(highest(half)); int(s>>16) != half {
			t.Errorf("hi is %d, want %d", s>>16, half)
		}
	}
}

func TestOfContinuesOne(t *testing.T) {
	for _, b := range texts() {
		if sum.Of(b) != sum.More(1, b) {
			t.Errorf("%d bytes: %08X and %08X", len(b), sum.Of(b), sum.More(1, b))
		}
	}
}

func TestMoreOfNothingReducesBothHalves(t *testing.T) {
	for _, x := range [][2]uint32{
		{0, 0},
		{1, 1},
		{65520, 65520},
		{65521, 0},
		{65522, 1},
		{65535, 14},
		{65520 << 16, 65520 << 16},
		{65521 << 16, 0},
		{65522 << 16, 1 << 16},
		{65520<<16 | 65521, 65520 << 16},
		{65521<<16 | 65520, 65520},
		{65520<<16 | 65520, 65520<<16 | 65520},
		{math.MaxUint32, 14<<16 | 14},
	} {
		for _, b := range [][]byte{nil, {}} {
			if s := sum.More(x[0], b); s != x[1] {
				t.Errorf("%08X: got %08X, want %08X", x[0], s, x[1])
			}
		}
	}
}

func TestMoreOfOneByte(t *testing.T) {
	for _, x := range []struct {
		sum  uint32
		c    byte
		want uint32
	}{
		{0, 0, 0},
		{0, 255, 255<<16 | 255},
		{65520, 0, 65520<<16 | 65520},
		{65520, 1, 0},
		{65520, 255, 254<<16 | 254},
		{65521, 0, 0},
		{65521, 255, 255<<16 | 255},
		{65266, 255, 0},
		{65265, 255, 65520<<16 | 65520},
		{65520<<16 | 65520, 0, 65519<<16 | 65520},
		{65520<<16 | 1, 0, 1},
		{65520 << 16, 255, 254<<16 | 255},
		{65521<<16 | 65521, 7, 7<<16 | 7},
		{math.MaxUint32, 0, 28<<16 | 14},
		{math.MaxUint32, 255, 283<<16 | 269},
	} {
		if s := sum.More(x.sum, []byte{x.c}); s != x.want {
			t.Errorf("%08X, byte %d: got %08X, want %08X", x.sum, x.c, s, x.want)
		}
	}
}

func TestMoreAddsEachByteToBothHalves(t *testing.T) {
	for _, s := range sums() {
		for _, b := range texts() {
			if got := sum.More(s, b); got != continued(s, b) {
				t.Fatalf("%08X, %d bytes: got %08X, want %08X", s, len(b), got, continued(s, b))
			}
		}
		for c := range 256 {
			if got := sum.More(s, []byte{byte(c)}); got != continued(s, []byte{byte(c)}) {
				t.Fatalf("%08X, byte %d: got %08X", s, c, got)
			}
		}
	}
}

func TestMoreOfManyOfTheLargestByte(t *testing.T) {
	b := repeated(255, 3*modulus+17)
	for _, s := range []uint32{0, 1, 0xFFF0FFF0, math.MaxUint32} {
		if got := sum.More(s, b); got != continued(s, b) {
			t.Errorf("%08X: got %08X, want %08X", s, got, continued(s, b))
		}
	}
}

func TestSumsLeaveTheirArgument(t *testing.T) {
	for _, b := range texts() {
		c := roomy(b)
		if sum.Of(c) != sum.Of(b) || sum.More(9, c) != sum.More(9, b) {
			t.Errorf("%d bytes: what lies behind the end counts", len(b))
		}
		untouched(t, c, b)
	}
}

// P3.2

func TestExamplesOfSeal(t *testing.T) {
	for _, x := range [][2][]byte{
		{nil, {1, 0, 0, 0}},
		{{}, {1, 0, 0, 0}},
		{{0}, {0, 1, 0, 1, 0}},
		{{255}, {255, 0, 1, 0, 1}},
		{[]byte("abc"), {'a', 'b', 'c', 0x27, 0x01, 0x4D, 0x02}},
		{{1, 0, 0, 0}, {1, 0, 0, 0, 2, 0, 8, 0}},
	} {
		if b := sum.Seal(x[0]); !bytes.Equal(b, x[1]) {
			t.Errorf("%v: got %v, want %v", x[0], b, x[1])
		}
	}
}

func TestSealPutsTheChecksumBehind(t *testing.T) {
	for _, b := range texts() {
		if c := sum.Seal(b); !bytes.Equal(c, sealed(b)) {
			t.Errorf("%d bytes: got %d bytes, which are others than %v", len(b), len(c), sealed(b)[len(b):])
		}
	}
}

func TestSealReturnsNewMemory(t *testing.T) {
	for _, b := range texts() {
		c := roomy(b)
		one, other := sum.Seal(c), sum.Seal(c)
		untouched(t, c, b)
		clear(one[:cap(one)])
		untouched(t, c, b)
		if !bytes.Equal(other, sealed(b)) {
			t.Errorf("%d bytes: a result changed with another one", len(b))
		}
	}
}

func TestOpenReturnsWhatIsBeforeTheChecksum(t *testing.T) {
	for _, b := range texts() {
		opens(t, sealed(b), b)
		opens(t, roomy(sealed(b)), b)
	}
}

func TestOpenRefusesFewBytes(t *testing.T) {
	for _, b := range [][]byte{nil, {}, {0}, {1}, {255}, {0, 0}, {1, 0}, {255, 255}, {0, 0, 0}, {1, 0, 0}, {0, 0, 1}, {255, 255, 255}} {
		isShut(t, b)
	}
	// The bytes that would make them four lie behind their end.
	for n := range 4 {
		b := append([]byte{1, 0, 0, 0}, repeated(238, 40)...)
		isShut(t, b[:n])
	}
}

func TestOpenRefusesOtherChecksums(t *testing.T) {
	for _, b := range [][]byte{
		{0, 0, 0, 0}, {0, 0, 0, 1}, {2, 0, 0, 0}, {255, 255, 255, 255}, {1, 0, 0, 1},
		{0, 1, 0, 0, 0}, {1, 0, 0, 0, 0}, {0, 0, 1, 0, 1}, {'a', 'b', 'c', 0x02, 0x4D, 0x01, 0x27},
		{0x27, 0x01, 0x4D, 0x02, 'a', 'b', 'c'}, repeated(0, 64), repeated(255, 64), counted(64),
	} {
		isShut(t, b)
	}
	isShut(t, append(sealed([]byte("abc")), 0))
	isShut(t, append([]byte{0}, sealed([]byte("abc"))...))
	isShut(t, sealed([]byte("abc"))[1:])
	isShut(t, sealed([]byte("abc"))[:6])
}

// A checksum's halves are below 65521: four bytes that stand for the same modulo 65521 are another number.
func TestOpenRefusesHalvesThatAreNotReduced(t *testing.T) {
	for _, b := range [][]byte{nil, {0}, {1}, {13}, lowest(0), lowest(1), lowest(14), highest(0), highest(14), highest(modulus)} {
		s := adler32.Checksum(b)
		for _, more := range []uint32{modulus, modulus << 16, modulus<<16 + modulus} {
			if s&0xFFFF+more&0xFFFF > 0xFFFF || s>>16+more>>16 > 0xFFFF {
				continue
			}
			n := s + more
			isShut(t, append(slices.Clone(b), byte(n), byte(n>>8), byte(n>>16), byte(n>>24)))
		}
	}
	isShut(t, []byte{0xF2, 0xFF, 0, 0})
	isShut(t, []byte{1, 0, 0xF1, 0xFF})
	isShut(t, []byte{0xF2, 0xFF, 0xF1, 0xFF})
}

// All four bytes are held against the checksum, each bit of them.
func TestOpenRefusesEachOtherBitOfTheChecksum(t *testing.T) {
	for _, b := range texts() {
		c := sealed(b)
		for bit := range 32 {
			at := len(b) + bit/8
			c[at] ^= 1 << (bit % 8)
			isShut(t, c)
			c[at] ^= 1 << (bit % 8)
		}
	}
}

func TestOpenReturnsNewMemory(t *testing.T) {
	for _, b := range texts() {
		c := roomy(sealed(b))
		one, _ := sum.Open(c)
		other, _ := sum.Open(c)
		untouched(t, c, sealed(b))
		one = one[:cap(one)]
		for i := range one {
			one[i] = 7
		}
		untouched(t, c, sealed(b))
		if !bytes.Equal(other, b) {
			t.Errorf("%d bytes: a result changed with another one", len(b))
		}
		c[0] ^= 1
		if !bytes.Equal(other, b) {
			t.Errorf("%d bytes: a result changed with the argument", len(b))
		}
	}
}

func TestOpenLeavesWhatItRefuses(t *testing.T) {
	for _, b := range [][]byte{nil, {1, 0, 0}, {2, 0, 0, 0}, counted(64)} {
		c := roomy(b)
		isShut(t, c)
		untouched(t, c, b)
	}
}

// P3.3

func TestConcatenationGoesOn(t *testing.T) {
	for _, a := range texts() {
		for _, b := range texts() {
			both := slices.Concat(a, b)
			if s := sum.More(sum.Of(a), b); s != sum.Of(both) {
				t.Fatalf("%d bytes, then %d: got %08X, want %08X", len(a), len(b), s, sum.Of(both))
			}
			for _, s := range []uint32{0, 0xFFF1FFF0, math.MaxUint32} {
				if sum.More(sum.More(s, a), b) != sum.More(s, both) {
					t.Fatalf("%08X, %d bytes, then %d: not as all of them at once", s, len(a), len(b))
				}
			}
		}
	}
}

func TestConcatenationAtEveryPlace(t *testing.T) {
	all := counted(1000)
	for at := range len(all) + 1 {
		if s := sum.More(sum.Of(all[:at]), all[at:]); s != sum.Of(all) {
			t.Errorf("at %d: got %08X, want %08X", at, s, sum.Of(all))
		}
	}
}

// Different bytes may have one checksum: then it does not matter which of them stood ahead.
func TestConcatenationForgetsTheFirstPart(t *testing.T) {
	for _, x := range [][2][]byte{
		{{1, 0, 1}, {0, 2, 0}},
		{{255, 0, 0, 255}, {254, 1, 1, 254}},
		{nil, repeated(0, modulus)},
		{{0, 0}, repeated(0, modulus+2)},
	} {
		if sum.Of(x[0]) != sum.Of(x[1]) {
			t.Fatalf("%d and %d bytes: %08X and %08X", len(x[0]), len(x[1]), sum.Of(x[0]), sum.Of(x[1]))
		}
		for _, b := range texts() {
			if sum.Of(slices.Concat(x[0], b)) != sum.Of(slices.Concat(x[1], b)) {
				t.Errorf("%d and %d bytes: not the same with %d bytes behind", len(x[0]), len(x[1]), len(b))
			}
		}
	}
}

// P3.4

func TestOpenReturnsWhatWasSealed(t *testing.T) {
	for _, b := range texts() {
		opens(t, sum.Seal(b), b)
		opens(t, sum.Seal(sum.Seal(b)), sum.Seal(b))
	}
	for n := range 300 {
		opens(t, sum.Seal(counted(n)), counted(n))
	}
}

// Most of the changed bytes are refused; what is not must be what Seal makes.
func TestSealReturnsWhatWasOpened(t *testing.T) {
	opened := 0
	for _, b := range [][]byte{nil, {0}, {255}, {1, 0, 1}, []byte("abc"), counted(30)} {
		c := sealed(b)
		for at := range c {
			for d := range 256 {
				e := slices.Clone(c)
				e[at] = byte(d)
				if x, errno := sum.Open(e); errno == api.OK {
					opened++
					if !bytes.Equal(sum.Seal(x), e) {
						t.Errorf("%v is opened, but is not what Seal makes", e)
					}
				}
			}
		}
		// One of 2^16 pairs of halves is right; those about it are not.
		for lo := range 1 << 16 {
			copy(c[len(b):], []byte{byte(lo), byte(lo >> 8)})
			if x, errno := sum.Open(c); errno == api.OK {
				opened++
				if !bytes.Equal(sum.Seal(x), c) {
					t.Errorf("%v is opened, but is not what Seal makes", c)
				}
			}
		}
	}
	if opened == 0 {
		t.Error("nothing was opened")
	}
}

func TestOpenRefusesEachReplacedByte(t *testing.T) {
	for _, b := range [][]byte{nil, {0}, {255}, {0, 255}, []byte("abc"), counted(300), repeated(0, 100), repeated(255, 300)} {
		c := sum.Seal(b)
		for at, was := range c {
			for d := range 256 {
				if byte(d) == was {
					continue
				}
				c[at] = byte(d)
				isShut(t, c)
			}
			c[at] = was
		}
		opens(t, c, b)
	}
}

func TestOpenRefusesReplacedBytesOfMany(t *testing.T) {
	b := counted(3 * modulus)
	c := sum.Seal(b)
	for _, at := range []int{0, 1, 4095, 4096, modulus - 1, modulus, 2 * modulus, len(b) - 2, len(b) - 1} {
		for _, d := range []byte{1, 128, 255} {
			c[at] += d
			isShut(t, c)
			c[at] -= d
		}
	}
	opens(t, c, b)
}

func TestOpenRefusesExchangedBytes(t *testing.T) {
	for _, b := range [][]byte{{0}, {255}, {0, 255}, {255, 0}, []byte("abc"), counted(3000), slices.Concat(repeated(0, 50), repeated(255, 50))} {
		c := sum.Seal(b)
		for at := range len(c) - 1 {
			if c[at] == c[at+1] {
				continue
			}
			c[at], c[at+1] = c[at+1], c[at]
			isShut(t, c)
			c[at], c[at+1] = c[at+1], c[at]
		}
		opens(t, c, b)
	}
}

func TestOpenRefusesEveryExchangeOfTwoBytes(t *testing.T) {
	for x := range 256 {
		for y := range 256 {
			c := sum.Seal([]byte{9, byte(x), byte(y), 9})
			c[1], c[2] = c[2], c[1]
			if x == y {
				opens(t, c, []byte{9, byte(x), byte(y), 9})
				continue
			}
			isShut(t, c)
		}
	}
}
