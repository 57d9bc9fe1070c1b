package dir

import (
	"bytes"

	"moat/api"
	"moat/entry"
	"moat/file"
	"moat/volume"
)

// read returns the bytes of a directory, or the error of an inode that is none.
func read(v *volume.Volume, i int) ([]byte, api.Errno) {
	n, _, e := v.Inode(i)
	switch {
	case e != api.OK:
		return nil, e
	case n.Kind != api.KindDir:
		return nil, api.ErrDir
	}
	b, e := file.Read(v, i, 0, n.Size)
	if e != api.OK {
		return nil, e
	}
	if _, e := entry.All(b); e != api.OK {
		return nil, e
	}
	return b, api.OK
}

// change makes the bytes of a directory what edit, which must leave its argument as it is, makes of them.
func change(v *volume.Volume, i int, edit func(b []byte) ([]byte, api.Errno)) api.Errno {
	was, e := read(v, i)
	if e != api.OK {
		return e
	}
	now, e := edit(was)
	if e != api.OK {
		return e
	}
	// What is removed at the end is not written: its blocks may be freed.
	if len(now) < len(was) {
		if e := file.Cut(v, i, len(now)); e != api.OK {
			return e
		}
		was = was[:len(now)]
	}
	return write(v, i, len(now), func(at int) []byte {
		b := block(now, at)
		if bytes.Equal(b, block(was, at)) {
			return nil
		}
		return b
	})
}

// write goes through the blocks of an inode of that size, and makes each what part returns for its offset; a block for which it returns nothing stays.
func write(v *volume.Volume, i, size int, part func(at int) []byte) api.Errno {
	for at := 0; at < size; at += api.SectorSize {
		if e := file.Write(v, i, at, part(at)); e != api.OK {
			return e
		}
	}
	return api.OK
}

// block returns those bytes of b, which may be none, that are in the block at that offset; they are a part of b.
func block(b []byte, at int) []byte {
	return b[min(at, len(b)):min(at+api.SectorSize, len(b))]
}
