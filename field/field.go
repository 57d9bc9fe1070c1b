// Package field is layer 1: little-endian unsigned integers of 1 to 8 bytes.
package field

import "moat/api"

const maxSize = 8

// Get returns the integer that is stored in b at offset at, in size bytes.
func Get(b []byte, at, size int) (uint64, api.Errno) {
	if !within(b, at, size) {
		return 0, api.ErrArg
	}
	return load(b[at:], size), api.OK
}

// Set returns b with n stored at offset at, in size bytes.
func Set(b []byte, at, size int, n uint64) ([]byte, api.Errno) {
	if !within(b, at, size) {
		return nil, api.ErrArg
	}
	if !fits(n, size) {
		return nil, api.ErrLong
	}
	c := padded(b, len(b))
	store(c[at:], size, n)
	return c, api.OK
}

// Lay returns the elements of l in order, in size bytes each.
func Lay(size int, l []uint64) ([]byte, api.Errno) {
	if !isSize(size) {
		return nil, api.ErrArg
	}
	// Dividing the limit, not multiplying the length, can't overflow.
	if len(l) > api.MaxText/size {
		return nil, api.ErrLong
	}
	b := make([]byte, len(l)*size)
	for i, n := range l {
		if !fits(n, size) {
			return nil, api.ErrLong
		}
		store(b[i*size:], size, n)
	}
	return b, api.OK
}

// Take returns the integers that are stored in b, in size bytes each.
func Take(size int, b []byte) ([]uint64, api.Errno) {
	if !isSize(size) || len(b)%size != 0 {
		return nil, api.ErrArg
	}
	if len(b) > api.MaxText {
		return nil, api.ErrLong
	}
	l := make([]uint64, len(b)/size)
	for i := range l {
		l[i] = load(b[i*size:], size)
	}
	return l, api.OK
}

// Fill returns b, padded with bytes 0 to the length size.
func Fill(b []byte, size int) ([]byte, api.Errno) {
	if size < 0 {
		return nil, api.ErrArg
	}
	if len(b) > size || size > api.MaxText {
		return nil, api.ErrLong
	}
	return padded(b, size), api.OK
}

func isSize(size int) bool { return 1 <= size && size <= maxSize }

// within subtracts size rather than adding at to it, because at may be near the greatest int.
func within(b []byte, at, size int) bool {
	return isSize(size) && at >= 0 && at <= len(b)-size
}

// fits needs no case for 8 bytes: shifting by all 64 bits leaves 0.
func fits(n uint64, size int) bool { return n>>(8*size) == 0 }

func load(b []byte, size int) uint64 {
	var n uint64
	for k := range size {
		n |= uint64(b[k]) << (8 * k)
	}
	return n
}

func store(b []byte, size int, n uint64) {
	for k := range size {
		b[k] = byte(n >> (8 * k))
	}
}

// padded copies, because results share no memory with arguments.
func padded(b []byte, size int) []byte {
	c := make([]byte, size)
	copy(c, b)
	return c
}
