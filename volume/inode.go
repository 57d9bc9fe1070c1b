package volume

import (
	"slices"

	"moat/api"
	"moat/inode"
	"moat/intern"
)

// Make takes the first free inode.
func (v *Volume) Make(kind uint8, a api.Label) (int, api.Errno) {
	if v == nil {
		return 0, api.ErrNone
	}
	if kind != api.KindFile && kind != api.KindDir {
		return 0, api.ErrArg
	}
	i := slices.IndexFunc(v.meta.Inodes, isFree)
	if i < 0 {
		return 0, api.ErrFull
	}
	row, e := v.retain(a)
	if e != api.OK {
		return 0, e
	}
	v.meta.Inodes[i] = api.Inode{Kind: kind, Row: uint8(row)}
	return i, api.OK
}

// Unmake lets go of an inode.
func (v *Volume) Unmake(i int) api.Errno {
	n, _, e := v.Inode(i)
	if e != api.OK {
		return e
	}
	v.release(int(n.Row))
	v.meta.Inodes[i] = api.Inode{}
	return api.OK
}

// Inode returns an inode and its label.
func (v *Volume) Inode(i int) (api.Inode, api.Label, api.Errno) {
	switch {
	case v == nil:
		return api.Inode{}, 0, api.ErrNone
	case !v.has(i):
		return api.Inode{}, 0, api.ErrArg
	case isFree(v.meta.Inodes[i]):
		return api.Inode{}, 0, api.ErrNone
	}
	n := v.meta.Inodes[i]
	return n, v.meta.Rows[n.Row].Label, api.OK
}

// Set says what an inode is to be, of the same kind and with the same row.
func (v *Volume) Set(i int, n api.Inode) api.Errno {
	switch {
	case v == nil:
		return api.ErrNone
	case !v.has(i) || !inode.Right(n) || isFree(n):
		return api.ErrArg
	case isFree(v.meta.Inodes[i]):
		return api.ErrNone
	case n.Kind != v.meta.Inodes[i].Kind || n.Row != v.meta.Inodes[i].Row:
		return api.ErrArg
	}
	v.meta.Inodes[i] = n
	return api.OK
}

func isFree(n api.Inode) bool { return n.Kind == api.KindFree }

// has reports whether there is an inode i.
func (s *state) has(i int) bool { return i >= 0 && i < len(s.meta.Inodes) }

// retain returns the row of the label a, which is needed once more.
func (s *state) retain(a api.Label) (int, api.Errno) {
	l, row, e := intern.Retain(s.meta.Rows, a)
	if e != api.OK {
		return 0, e
	}
	s.meta.Rows = l
	return row, api.OK
}

// release lets go of a row. One that is free already stays so: a disk may have come with fewer Refs than its row is needed.
func (s *state) release(row int) {
	if l, e := intern.Release(s.meta.Rows, row); e == api.OK {
		s.meta.Rows = l
	}
}
