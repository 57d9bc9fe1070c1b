package volume

import (
	"slices"

	"moat/api"
	"moat/bits"
	"moat/super"
)

// Alloc takes a block that is not in use, in a group of the label a.
func (v *Volume) Alloc(a api.Label) (int, api.Errno) {
	if v == nil {
		return 0, api.ErrNone
	}
	block, is := v.unused(a)
	if !is {
		var e api.Errno
		if block, e = v.claim(a); e != api.OK {
			return 0, e
		}
	}
	v.use(block, true)
	return block, api.OK
}

// Free lets go of a block, which is overwritten with bytes 0, and of its group if it was the last one in use there.
func (v *Volume) Free(block int) api.Errno {
	group, e := v.groupOf(block)
	if e != api.OK {
		return e
	}
	if !bits.Has(v.meta.Used, block) {
		return api.ErrNone
	}
	// Ahead of the release: these bytes 0 still are the owner's.
	v.put(block, group, [api.SectorSize]byte{})
	v.use(block, false)
	if !isInUse(v.geo, v.meta.Used, group) {
		v.release(v.meta.Owners[group] - 1)
		v.meta.Owners[group] = 0
	}
	return api.OK
}

// Read returns the content of a block, whether it is in use or not.
func (v *Volume) Read(block int) ([]byte, api.Errno) {
	if _, e := v.groupOf(block); e != api.OK {
		return nil, e
	}
	if c, is := v.dirty[block]; is {
		return c.bytes[:], api.OK
	}
	return v.d.Read(v.layout.Blocks + block)
}

// Write says what a block that is in use is to be.
func (v *Volume) Write(block int, b []byte) api.Errno {
	group, e := v.groupOf(block)
	if e != api.OK {
		return e
	}
	if len(b) != api.SectorSize {
		return api.ErrArg
	}
	if !bits.Has(v.meta.Used, block) {
		return api.ErrNone
	}
	v.put(block, group, [api.SectorSize]byte(b))
	return api.OK
}

// groupOf returns the group that a block is in, or the error of a volume or a block that there is not.
func (v *Volume) groupOf(block int) (int, api.Errno) {
	if v == nil {
		return 0, api.ErrNone
	}
	group, is := super.Group(v.geo, block)
	if !is {
		return 0, api.ErrArg
	}
	return group, api.OK
}

// unused returns the first block that is not in use in the groups of the label a.
func (v *Volume) unused(a api.Label) (int, bool) {
	for group, owner := range v.meta.Owners {
		if owner == 0 || v.label(group) != a {
			continue
		}
		from := group * v.geo.PerGroup
		if block, is := bits.First(v.meta.Used, from, from+v.geo.PerGroup, false); is {
			return block, true
		}
	}
	return 0, false
}

// claim makes the label a the owner of the first group that has none, and returns its first block.
func (v *Volume) claim(a api.Label) (int, api.Errno) {
	group := slices.Index(v.meta.Owners, 0)
	if group < 0 {
		return 0, api.ErrFull
	}
	row, e := v.retain(a)
	if e != api.OK {
		return 0, e
	}
	v.meta.Owners[group] = row + 1
	return group * v.geo.PerGroup, api.OK
}

// label returns the label of the group's owner; the group must have one.
func (s *state) label(group int) api.Label { return s.meta.Rows[s.meta.Owners[group]-1].Label }

// put says what a block is to be; its group must have an owner, as each group with a block in use has.
func (s *state) put(block, group int, b [api.SectorSize]byte) {
	s.dirty[block] = content{b, s.label(group)}
}

// use says whether a block is in use.
func (s *state) use(block int, on bool) {
	// With can't fail: a sector has a bit for each of the most blocks, and not too many.
	s.meta.Used, _ = bits.With(s.meta.Used, block, on)
}
