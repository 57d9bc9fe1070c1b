package volume

import (
	"bytes"
	"maps"
	"slices"

	"moat/api"
	"moat/meta"
	"moat/super"
)

// Begin remembers the current state for Abort, once there is room in the journal for a change.
func (v *Volume) Begin() api.Errno {
	if v == nil {
		return api.ErrNone
	}
	if v.Dirty() > v.j.Room()-super.Meta(v.geo)-api.Reserve {
		if e := v.Sync(); e != api.OK {
			return e
		}
	}
	s := v.clone()
	v.began = &s
	return api.OK
}

// Abort restores the state that the last Begin remembered, unless there was a Sync since.
func (v *Volume) Abort() {
	if v == nil || v.began == nil {
		return
	}
	// A copy, because it may have to be restored again.
	v.state = v.began.clone()
}

// Sync writes all changes, or none, and makes them safe.
func (v *Volume) Sync() api.Errno {
	switch {
	case v == nil:
		return api.ErrNone
	case v.dead:
		return api.ErrDead
	}
	// Lay can't fail: no change makes the metadata invalid.
	laid, _ := meta.Lay(v.geo, v.meta)
	e := v.j.Commit(slices.Concat(v.metaPatches(laid), v.blockPatches()))
	v.dead = e == api.ErrDead
	if e != api.OK {
		return e
	}
	v.laid, v.began = laid, nil
	clear(v.dirty)
	return api.OK
}

// Dirty returns how many blocks are to be written.
func (v *Volume) Dirty() int {
	if v == nil {
		return 0
	}
	return len(v.dirty)
}

// metaPatches returns the patches of those sectors of the metadata that are to be others than they are on the disk.
func (v *Volume) metaPatches(laid [][]byte) []api.Patch {
	var l []api.Patch
	for i, b := range laid {
		if !bytes.Equal(b, v.laid[i]) {
			l = append(l, api.Patch{Sector: v.layout.Labels + i, Bytes: b})
		}
	}
	return l
}

// blockPatches returns the patches of the blocks to be written, in increasing order: a map has none.
func (v *Volume) blockPatches() []api.Patch {
	var l []api.Patch
	for _, block := range slices.Sorted(maps.Keys(v.dirty)) {
		c := v.dirty[block]
		l = append(l, api.Patch{Sector: v.layout.Blocks + block, Bytes: c.bytes[:], Tag: c.tag})
	}
	return l
}
