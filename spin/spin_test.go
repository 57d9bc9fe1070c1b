package spin_test

import (
	"math"
	"strings"
	"testing"

	"moat/api"
	"moat/spin"
)

// part is a part of a hash value, and what it is modulo 257.
type part struct{ given, reduced int }

// normals are the parts that a hash value may have at the edges, and some between.
var normals = []part{{0, 0}, {1, 1}, {2, 2}, {16, 16}, {128, 128}, {129, 129}, {255, 255}, {256, 256}}

// wrongs are parts that are not normalized. No float64 holds those beside 2^53, nor the largest number.
var wrongs = []part{
	{257, 0}, {258, 1}, {513, 256}, {514, 0}, {65536, 1}, {1<<53 + 1, 33}, {math.MaxInt - 1, 127}, {math.MaxInt, 128},
	{-1, 256}, {-256, 1}, {-257, 0}, {-258, 256}, {-514, 0}, {-65536, 256}, {-1<<53 - 1, 224}, {math.MinInt + 1, 129}, {math.MinInt, 128},
}

// value is a hash value as it is given, and normalized.
type value struct{ given, reduced api.Spin }

func valueOf(x, y part) value {
	return value{api.Spin{X: x.given, Y: y.given}, api.Spin{X: x.reduced, Y: y.reduced}}
}

// values are hash values: all of normal parts at the edges, and of each wrong part with a normal or another wrong one.
func values() []value {
	var l []value
	for _, x := range normals {
		for _, y := range normals {
			l = append(l, valueOf(x, y))
		}
	}
	for i, w := range wrongs {
		l = append(l, valueOf(w, normals[i%len(normals)]), valueOf(normals[(i+3)%len(normals)], w))
		l = append(l, valueOf(w, w), valueOf(w, wrongs[len(wrongs)-1-i]))
	}
	return l
}

// reduced is modulo for the small numbers that normalized parts make.
func reduced(x, y int) api.Spin {
	const lift = 257 * 257
	return api.Spin{X: (x + lift) % 257, Y: (y + lift) % 257}
}

func product(a, b api.Spin) api.Spin {
	return reduced(a.X*b.X-a.Y*b.Y, a.X*b.Y+a.Y*b.X)
}

func sum(a, b api.Spin) api.Spin {
	return reduced(a.X+b.X, a.Y+b.Y)
}

// hashed takes s for normalized.
func hashed(s api.Spin, t string) api.Spin {
	for _, c := range []byte(t) {
		s = sum(product(s, api.Spin{X: 3, Y: 2}), api.Spin{X: int(c) + 1, Y: int(c) % 7})
	}
	return s
}

// texts are strings of no byte, of one and of many, some of which are no UTF-8.
func texts() []string {
	return []string{
		"", "\x00", "\x01", "\x06", "\x07", "a", "\x7f", "\x80", "\xfe", "\xff",
		"\x00\x00", "\xff\xff", "\x00\xff", "\xff\x00", "ab", "ba", "f", "file", "a name of ", "é", "\u20ac", "\U0001f600", "\xc3", "\xe2\x82", "\xed\xa0\x80",
		strings.Repeat("\x00", 300), strings.Repeat("\xff", 300), strings.Repeat("moat", 1024), allBytes(),
	}
}

func allBytes() string {
	b := make([]byte, 256)
	for i := range b {
		b[i] = byte(i)
	}
	return string(b)
}

// withByte is t with the byte c at the place at.
func withByte(t string, at int, c byte) string {
	b := []byte(t)
	b[at] = c
	return string(b)
}

// P2.1

func TestRightKnowsEachPart(t *testing.T) {
	for _, x := range normals {
		for _, y := range normals {
			if s := valueOf(x, y).given; !spin.Right(s) {
				t.Errorf("%v isn't normalized", s)
			}
		}
	}
	for _, w := range wrongs {
		for _, n := range normals {
			for _, s := range []api.Spin{valueOf(w, n).given, valueOf(n, w).given} {
				if spin.Right(s) {
					t.Errorf("%v is normalized", s)
				}
			}
		}
		for _, v := range wrongs {
			if s := valueOf(w, v).given; spin.Right(s) {
				t.Errorf("%v is normalized", s)
			}
		}
	}
}

func TestRightForEveryPartNear(t *testing.T) {
	for n := -600; n <= 600; n++ {
		want := 0 <= n && n <= 256
		for _, s := range []api.Spin{{X: n}, {Y: n}, {X: n, Y: 256}, {X: 256, Y: n}} {
			if spin.Right(s) != want {
				t.Errorf("%v: got %v", s, !want)
			}
		}
	}
}

func TestExampleOfTurn(t *testing.T) {
	i := api.Spin{X: 0, Y: 1}
	if s := spin.Turn(i, i); s != (api.Spin{X: 256, Y: 0}) {
		t.Errorf("got %v", s)
	}
}

func TestTurnOfKnownValues(t *testing.T) {
	for _, x := range [][3]api.Spin{
		{{X: 2, Y: 3}, {X: 4, Y: 5}, {X: 250, Y: 22}},
		{{X: 1, Y: 0}, {X: 200, Y: 100}, {X: 200, Y: 100}},
		{{X: 0, Y: 1}, {X: 200, Y: 100}, {X: 157, Y: 200}},
		{{X: 0, Y: 0}, {X: 256, Y: 256}, {X: 0, Y: 0}},
		{{X: 256, Y: 256}, {X: 256, Y: 256}, {X: 0, Y: 2}},
		{{X: 0, Y: 256}, {X: 0, Y: 256}, {X: 256, Y: 0}},
		{{X: 16, Y: 0}, {X: 16, Y: 0}, {X: 256, Y: 0}},
		{{X: -1, Y: 0}, {X: 258, Y: 0}, {X: 256, Y: 0}},
		{{X: 257, Y: 514}, {X: 3, Y: 4}, {X: 0, Y: 0}},
		{{X: math.MaxInt, Y: math.MinInt}, {X: 2, Y: 0}, {X: 256, Y: 256}},
	} {
		if s := spin.Turn(x[0], x[1]); s != x[2] {
			t.Errorf("%v by %v: got %v, want %v", x[0], x[1], s, x[2])
		}
	}
}

func TestTurnIsTheProduct(t *testing.T) {
	for _, a := range values() {
		for _, b := range values() {
			if s := spin.Turn(a.given, b.given); s != product(a.reduced, b.reduced) {
				t.Fatalf("%v by %v: got %v, want %v", a.given, b.given, s, product(a.reduced, b.reduced))
			}
		}
	}
}

func TestTurnOfEveryNormalizedValue(t *testing.T) {
	for _, b := range []api.Spin{{X: 3, Y: 2}, {X: 256, Y: 255}, {X: 0, Y: 256}} {
		for x := range 257 {
			for y := range 257 {
				a := api.Spin{X: x, Y: y}
				if s := spin.Turn(a, b); s != product(a, b) {
					t.Fatalf("%v by %v: got %v, want %v", a, b, s, product(a, b))
				}
			}
		}
	}
}

func TestPushOfKnownValues(t *testing.T) {
	for _, x := range [][3]api.Spin{
		{{X: 0, Y: 0}, {X: 0, Y: 0}, {X: 0, Y: 0}},
		{{X: 1, Y: 2}, {X: 3, Y: 4}, {X: 4, Y: 6}},
		{{X: 256, Y: 0}, {X: 1, Y: 0}, {X: 0, Y: 0}},
		{{X: 0, Y: 256}, {X: 0, Y: 1}, {X: 0, Y: 0}},
		{{X: 255, Y: 1}, {X: 1, Y: 255}, {X: 256, Y: 256}},
		{{X: 256, Y: 256}, {X: 256, Y: 256}, {X: 255, Y: 255}},
		{{X: 200, Y: -1}, {X: 100, Y: 3}, {X: 43, Y: 2}},
		{{X: math.MaxInt, Y: math.MinInt}, {X: math.MaxInt, Y: math.MinInt}, {X: 256, Y: 256}},
		{{X: math.MaxInt, Y: math.MinInt}, {X: 1, Y: -1}, {X: 129, Y: 127}},
	} {
		if s := spin.Push(x[0], x[1]); s != x[2] {
			t.Errorf("%v and %v: got %v, want %v", x[0], x[1], s, x[2])
		}
	}
}

func TestPushIsTheSum(t *testing.T) {
	for _, a := range values() {
		for _, b := range values() {
			if s := spin.Push(a.given, b.given); s != sum(a.reduced, b.reduced) {
				t.Fatalf("%v and %v: got %v, want %v", a.given, b.given, s, sum(a.reduced, b.reduced))
			}
		}
	}
}

func TestPushOfEveryPart(t *testing.T) {
	for x := range 257 {
		for y := range 257 {
			a, b := api.Spin{X: x, Y: y}, api.Spin{X: y, Y: 256 - x}
			if s := spin.Push(a, b); s != sum(a, b) {
				t.Fatalf("%v and %v: got %v, want %v", a, b, s, sum(a, b))
			}
		}
	}
}

// P2.2

func TestExamplesOfOf(t *testing.T) {
	for text, want := range map[string]api.Spin{
		"":     {X: 1, Y: 0},
		"a":    {X: 101, Y: 8},
		"\x00": {X: 4, Y: 2},
		"\x06": {X: 10, Y: 8},
		"\x07": {X: 11, Y: 2},
		"\xfe": {X: 1, Y: 4},
		"\xff": {X: 2, Y: 5},
		"ab":   {X: 129, Y: 226},
	} {
		if s := spin.Of(text); s != want {
			t.Errorf("%q: got %v, want %v", text, s, want)
		}
	}
}

func TestOfProcessesBytesInOrder(t *testing.T) {
	for _, text := range texts() {
		if s := spin.Of(text); s != hashed(api.Spin{X: 1}, text) {
			t.Errorf("%q: got %v, want %v", text, s, hashed(api.Spin{X: 1}, text))
		}
	}
}

func TestOfEveryByte(t *testing.T) {
	for c := range 256 {
		text := string([]byte{byte(c)})
		if s := spin.Of(text); s != hashed(api.Spin{X: 1}, text) {
			t.Errorf("byte %d: got %v, want %v", c, s, hashed(api.Spin{X: 1}, text))
		}
	}
}

func TestMoreProcessesBytesInOrder(t *testing.T) {
	for _, v := range values() {
		for _, text := range texts() {
			if s := spin.More(v.given, text); s != hashed(v.reduced, text) {
				t.Fatalf("%v, %q: got %v, want %v", v.given, text, s, hashed(v.reduced, text))
			}
		}
	}
}

func TestMoreOfNothingNormalizes(t *testing.T) {
	for _, v := range values() {
		if s := spin.More(v.given, ""); s != v.reduced {
			t.Errorf("%v: got %v, want %v", v.given, s, v.reduced)
		}
	}
}

func TestBitsOfKnownValues(t *testing.T) {
	for s, want := range map[api.Spin]uint8{
		{X: 0, Y: 0}:                         0,
		{X: 1, Y: 0}:                         1,
		{X: 0, Y: 1}:                         16,
		{X: 255, Y: 0}:                       255,
		{X: 256, Y: 0}:                       0,
		{X: 0, Y: 15}:                        240,
		{X: 0, Y: 16}:                        0,
		{X: 0, Y: 256}:                       0,
		{X: 15, Y: 15}:                       255,
		{X: 16, Y: 15}:                       0,
		{X: 256, Y: 255}:                     240,
		{X: 101, Y: 8}:                       229,
		{X: 257, Y: 257}:                     0,
		{X: 258, Y: 0}:                       1,
		{X: -1, Y: 0}:                        0,
		{X: -2, Y: -2}:                       239,
		{X: 0, Y: 258}:                       16,
		{X: math.MaxInt, Y: math.MinInt}:     128,
		{X: math.MinInt, Y: math.MaxInt - 1}: 112,
	} {
		if n := spin.Bits(s); n != want {
			t.Errorf("%v: got %d, want %d", s, n, want)
		}
	}
}

func TestBitsOfEveryNormalizedValue(t *testing.T) {
	for x := range 257 {
		for y := range 257 {
			if n := spin.Bits(api.Spin{X: x, Y: y}); int(n) != (x+16*y)%256 {
				t.Fatalf("%d + %di: got %d", x, y, n)
			}
		}
	}
}

func TestBitsReducesFirst(t *testing.T) {
	for _, v := range values() {
		if n := spin.Bits(v.given); int(n) != (v.reduced.X+16*v.reduced.Y)%256 {
			t.Errorf("%v: got %d", v.given, n)
		}
	}
}

// P2.3

func TestTurnAndPushAreCommutative(t *testing.T) {
	for _, a := range values() {
		for _, b := range values() {
			if spin.Turn(a.given, b.given) != spin.Turn(b.given, a.given) {
				t.Fatalf("the product of %v and %v depends on their order", a.given, b.given)
			}
			if spin.Push(a.given, b.given) != spin.Push(b.given, a.given) {
				t.Fatalf("the sum of %v and %v depends on their order", a.given, b.given)
			}
		}
	}
}

func TestTurnDistributesOverPush(t *testing.T) {
	l := values()
	for _, a := range l {
		for _, b := range l {
			for k := 0; k < len(l); k += 5 {
				x, y, z := a.given, b.given, l[k].given
				if spin.Turn(x, spin.Push(y, z)) != spin.Push(spin.Turn(x, y), spin.Turn(x, z)) {
					t.Fatalf("%v by the sum of %v and %v is not the sum of the products", x, y, z)
				}
			}
		}
	}
}

func TestResultsAreNormalized(t *testing.T) {
	for _, a := range values() {
		for _, b := range values() {
			if s := spin.Turn(a.given, b.given); !spin.Right(s) {
				t.Fatalf("Turn of %v and %v: %v", a.given, b.given, s)
			}
			if s := spin.Push(a.given, b.given); !spin.Right(s) {
				t.Fatalf("Push of %v and %v: %v", a.given, b.given, s)
			}
		}
		if s := spin.More(a.given, "moat"); !spin.Right(s) {
			t.Fatalf("More of %v: %v", a.given, s)
		}
	}
}

// P2.4

func TestConcatenationGoesOn(t *testing.T) {
	for _, a := range texts() {
		for _, b := range texts() {
			if s := spin.More(spin.Of(a), b); s != spin.Of(a+b) {
				t.Fatalf("%q, then %q: got %v, want %v", a, b, s, spin.Of(a+b))
			}
			v := api.Spin{X: -5, Y: 700}
			if s := spin.More(spin.More(v, a), b); s != spin.More(v, a+b) {
				t.Fatalf("%v, %q, then %q: got %v, want %v", v, a, b, s, spin.More(v, a+b))
			}
		}
	}
}

// There are more strings of three bytes than hash values, so some share theirs.
func TestConcatenationForgetsTheFirstString(t *testing.T) {
	first := map[api.Spin]string{}
	shared := 0
	for n := 0; n < 1<<24 && shared < 50; n += 97 {
		a := string([]byte{byte(n >> 16), byte(n >> 8), byte(n)})
		s := spin.Of(a)
		b, there := first[s]
		if !there {
			first[s] = a
			continue
		}
		shared++
		for _, text := range texts() {
			if spin.Of(a+text) != spin.Of(b+text) {
				t.Fatalf("%q and %q have the same hash value, but not with %q behind", a, b, text)
			}
		}
	}
	if shared == 0 {
		t.Error("no two strings have the same hash value")
	}
}

func TestOneByteTellsStringsApart(t *testing.T) {
	for _, text := range texts() {
		for at := 0; at < len(text); at += 1 + len(text)/8 {
			oneByteTells(t, text, at)
		}
		if len(text) > 0 {
			oneByteTells(t, text, len(text)-1)
		}
	}
}

// oneByteTells fails the test if two strings that differ from text at that place alone have the same hash value.
func oneByteTells(t *testing.T, text string, at int) {
	t.Helper()
	of := map[api.Spin]int{}
	for c := range 256 {
		s := spin.Of(withByte(text, at, byte(c)))
		if d, there := of[s]; there {
			t.Fatalf("%q: bytes %d and %d at %d have the same hash value", text, c, d, at)
		}
		of[s] = c
	}
}
