package file

import (
	"bytes"
	"maps"
	"slices"

	"moat/api"
	"moat/bits"
	"moat/inode"
	"moat/volume"
)

const mostBlocks = api.MaxFile / api.SectorSize // of a file

// draft is an inode and its blocks as a call is to leave them. All of it is made ahead of the first change of the volume, except for what is allocated, so that an error leaves the volume as it was.
type draft struct {
	api.Inode
	label  api.Label
	v      *volume.Volume
	i      int
	blocks map[int][]byte // what blocks of the volume are to be; nil for one that is to be freed
}

// open returns the draft that changes nothing.
func open(v *volume.Volume, i int) (*draft, api.Errno) {
	n, a, e := v.Inode(i)
	if e != api.OK {
		return nil, e
	}
	return &draft{Inode: n, label: a, v: v, i: i, blocks: map[int][]byte{}}, api.OK
}

// follow goes along the path of pointers to a block of the file, up to the first one that points to nothing. Each of them is handed to visit, which may change it, with the number of those behind it.
func (d *draft) follow(block int, visit func(p *int, left int) api.Errno) api.Errno {
	var along func(p *int, path []int) api.Errno
	along = func(p *int, path []int) api.Errno {
		if e := visit(p, len(path)); e != api.OK || *p == 0 || len(path) == 0 {
			return e
		}
		b, e := d.content(*p - 1)
		if e != api.OK {
			return e
		}
		l, e := inode.Pointers(b)
		if e != api.OK {
			return e
		}
		if e := along(&l[path[0]], path[1:]); e != api.OK {
			return e
		}
		d.store(p, b, l)
		return api.OK
	}
	// Where can't fail: no file has more blocks than it knows.
	level, first, second, _ := inode.Where(block)
	switch level {
	case 0:
		return along(&d.Direct[first], nil)
	case 1:
		return along(&d.Ind, []int{first})
	}
	return along(&d.Dind, []int{first, second})
}

// content returns what a block of the volume is to be.
func (d *draft) content(block int) ([]byte, api.Errno) {
	if b := d.blocks[block]; b != nil {
		return b, api.OK
	}
	return d.v.Read(block)
}

// store makes l the pointers in the block to which p points, which had the content was. Without a pointer it is not needed.
func (d *draft) store(p *int, was []byte, l []int) {
	// Block can't fail: all of these are pointers.
	b, _ := inode.Block(l)
	switch {
	case isClear(b):
		d.free(p)
	case !bytes.Equal(b, was):
		d.blocks[*p-1] = b
	}
}

// free lets go of the block to which p points.
func (d *draft) free(p *int) {
	d.blocks[*p-1] = nil
	*p = 0
}

// read returns the bytes of the file from one offset to another, also beyond its size.
func (d *draft) read(from, to int) ([]byte, api.Errno) {
	l := make([]byte, to-from)
	for at := from; at < to; {
		part := l[at-from:]
		within := at % api.SectorSize
		e := d.follow(at/api.SectorSize, func(p *int, left int) api.Errno {
			if *p == 0 || left > 0 {
				return api.OK
			}
			b, e := d.content(*p - 1)
			if e == api.OK {
				copy(part, b[within:])
			}
			return e
		})
		if e != api.OK {
			return nil, e
		}
		at += api.SectorSize - within
	}
	return l, api.OK
}

// write makes b, which must not be empty, the bytes of the file from that offset on.
func (d *draft) write(at int, b []byte) api.Errno {
	if at > d.Size {
		if e := d.cut(at); e != api.OK {
			return e
		}
	}
	from, to := at/api.SectorSize, inode.Blocks(at+len(b))
	// Reading comes ahead of all that is allocated, because the power may be off.
	l, e := d.read(from*api.SectorSize, to*api.SectorSize)
	if e != api.OK {
		return e
	}
	copy(l[at%api.SectorSize:], b)
	for k := range to - from {
		if e := d.fill(from+k, l[k*api.SectorSize:][:api.SectorSize]); e != api.OK {
			return e
		}
	}
	d.Size = max(d.Size, at+len(b))
	return api.OK
}

// fill makes b the content of a block of the file, which is allocated if the file does not have it, and so are the blocks of pointers on the path to it.
func (d *draft) fill(block int, b []byte) api.Errno {
	return d.follow(block, func(p *int, left int) api.Errno {
		if *p == 0 {
			n, e := d.v.Alloc(d.label)
			if e != api.OK {
				return e
			}
			*p = n + 1
			d.blocks[n] = make([]byte, api.SectorSize)
		}
		if left == 0 {
			d.blocks[*p-1] = b
		}
		return api.OK
	})
}

// cut gives the file another size. What is beyond its old one may be other bytes than 0 if the inode was not written here.
func (d *draft) cut(size int) api.Errno {
	kept := min(size, d.Size)
	for block := kept / api.SectorSize; block < mostBlocks; block++ {
		e := d.follow(block, func(p *int, left int) api.Errno {
			switch {
			case *p == 0 || left > 0:
				return api.OK
			case block < inode.Blocks(kept):
				return d.wipe(*p-1, kept%api.SectorSize)
			}
			d.free(p)
			return api.OK
		})
		if e != api.OK {
			return e
		}
	}
	d.Size = size
	return api.OK
}

// wipe makes the bytes of a block of the volume 0 from that one on.
func (d *draft) wipe(block, from int) api.Errno {
	b, e := d.content(block)
	if e != api.OK || isClear(b[from:]) {
		return e
	}
	clear(b[from:])
	d.blocks[block] = b
	return api.OK
}

// commit changes the volume, unless a pointer refers to a block that is not in use.
func (d *draft) commit() api.Errno {
	used := d.v.Meta().Used
	l := slices.Sorted(maps.Keys(d.blocks))
	if slices.ContainsFunc(l, func(block int) bool { return !bits.Has(used, block) }) {
		return api.ErrNone
	}
	// Nothing of this can fail: the blocks are in use, and the inode is still valid.
	for _, block := range l {
		if b := d.blocks[block]; b != nil {
			d.v.Write(block, b)
		} else {
			d.v.Free(block)
		}
	}
	return d.v.Set(d.i, d.Inode)
}

func isClear(b []byte) bool {
	return !slices.ContainsFunc(b, func(c byte) bool { return c != 0 })
}
