package tree

import (
	"moat/api"
	"moat/dir"
	"moat/file"
	"moat/volume"
)

// step is a part of a change.
type step func() api.Errno

// change takes all of the steps, or none.
func change(v *volume.Volume, steps ...step) api.Errno {
	if e := v.Begin(); e != api.OK {
		return e
	}
	for _, take := range steps {
		if e := take(); e != api.OK {
			v.Abort()
			return e
		}
	}
	return api.OK
}

// add gives the inode i the name at a location.
func add(v *volume.Volume, p place, i int) step {
	return func() api.Errno { return dir.Add(v, p.dir, api.Entry{Name: p.name, Inode: i}) }
}

// remove takes away the name at a location.
func remove(v *volume.Volume, p place) step {
	return func() api.Errno { return dir.Remove(v, p.dir, p.name) }
}

// replace gives the inode i the name at a location, which another one had.
func replace(v *volume.Volume, p place, i int) step {
	return func() api.Errno {
		_, e := dir.Replace(v, p.dir, api.Entry{Name: p.name, Inode: i})
		return e
	}
}

// link counts more links of an inode, or fewer.
func link(v *volume.Volume, i, more int) step {
	return func() api.Errno {
		// Inode can't fail: nobody counts the links of an inode that is free.
		n, _, _ := v.Inode(i)
		n.Links += more
		return v.Set(i, n)
	}
}

// drop lets go of an inode and of all its blocks.
func drop(v *volume.Volume, i int) step {
	return func() api.Errno { return file.Drop(v, i) }
}

// lose changes names so that a file has one name less, and returns its inode and whether this was its last one.
func (x object) lose(v *volume.Volume, names ...step) (int, bool, api.Errno) {
	if e := change(v, append(names, link(v, x.i, -1))...); e != api.OK {
		return 0, false, e
	}
	return x.i, x.Links == 1, api.OK
}

// supplant gives an object the name of the one at a location, as Rename does.
func (c caller) supplant(x object, to place) (int, bool, api.Errno) {
	other, e := c.at(to)
	switch {
	case e != api.OK:
		return 0, false, e
	case other.i == x.i:
		return 0, false, api.OK
	case (other.Kind == api.KindDir) != (x.Kind == api.KindDir):
		return 0, false, api.ErrDir
	}
	names := []step{remove(c.v, x.place), replace(c.v, to, x.i)}
	if other.Kind == api.KindFile {
		return other.lose(c.v, names...)
	}
	if e := empty(c.v, other.i); e != api.OK {
		return 0, false, e
	}
	return 0, false, change(c.v, append(names, drop(c.v, other.i))...)
}

// reaping returns the changes that drop all inodes without links. Each of them frees no more blocks than one change may, so that the journal has room for it; all blocks of pointers are read ahead of the first one, because the power may be off.
func reaping(v *volume.Volume) ([][]step, api.Errno) {
	var changes [][]step
	left := 0
	for i := range v.Geo().Inodes {
		n, _, e := v.Inode(i)
		if e != api.OK || n.Links > 0 {
			continue
		}
		blocks, e := file.Blocks(v, i)
		if e != api.OK {
			return nil, e
		}
		if len(changes) == 0 || len(blocks) > left {
			changes, left = append(changes, nil), api.Reserve
		}
		last := len(changes) - 1
		changes[last] = append(changes[last], drop(v, i))
		left -= len(blocks)
	}
	return changes, api.OK
}
