package tree

import (
	"moat/api"
	"moat/dir"
	"moat/label"
	"moat/path"
	"moat/volume"
)

// caller is who asks for something of a volume, with his label.
type caller struct {
	v *volume.Volume
	a api.Label
}

// place is a location.
type place struct {
	dir  int
	name string
}

// node is an inode with its number and its label.
type node struct {
	api.Inode
	i     int
	label api.Label
}

// object is what has the name at a location.
type object struct {
	node
	place
}

// node returns the inode i, if information may flow from it to the caller.
func (c caller) node(i int) (node, api.Errno) {
	n, b, e := c.v.Inode(i)
	switch {
	case e != api.OK:
		return node{}, e
	case !label.Flows(b, c.a):
		return node{}, api.ErrFlow
	}
	return node{n, i, b}, api.OK
}

// own returns the inode i, if information may also flow from the caller to it.
func (c caller) own(i int) (node, api.Errno) {
	n, e := c.node(i)
	switch {
	case e != api.OK:
		return node{}, e
	case n.label != c.a:
		return node{}, api.ErrFlow
	}
	return n, api.OK
}

// find looks up a name in a directory.
func (c caller) find(i int, name string) (int, api.Errno) {
	if _, e := c.node(i); e != api.OK {
		return 0, e
	}
	return dir.Find(c.v, i, name)
}

// walk returns the inode to which the path s leads.
func (c caller) walk(s string) (int, api.Errno) {
	names, e := path.Parse(s)
	if e != api.OK {
		return 0, e
	}
	i := Root
	for _, name := range names {
		if i, e = c.find(i, name); e != api.OK {
			return 0, e
		}
	}
	return i, api.OK
}

// reach returns the inode to which the path s leads, if information may flow from it to the caller.
func (c caller) reach(s string) (node, api.Errno) {
	i, e := c.walk(s)
	if e != api.OK {
		return node{}, e
	}
	return c.node(i)
}

// locate returns the location of the path s.
func (c caller) locate(s string) (place, api.Errno) {
	in, name, e := path.Split(s)
	if e != api.OK {
		return place{}, e
	}
	x, e := c.reach(in)
	switch {
	case e != api.OK:
		return place{}, e
	case x.Kind != api.KindDir:
		return place{}, api.ErrDir
	case x.label != c.a:
		return place{}, api.ErrFlow
	}
	return place{x.i, name}, api.OK
}

// at returns the object at a location.
func (c caller) at(p place) (object, api.Errno) {
	i, e := dir.Find(c.v, p.dir, p.name)
	if e != api.OK {
		return object{}, e
	}
	n, e := c.own(i)
	if e != api.OK {
		return object{}, e
	}
	return object{n, p}, api.OK
}

// object returns the object at the location of the path s.
func (c caller) object(s string) (object, api.Errno) {
	p, e := c.locate(s)
	if e != api.OK {
		return object{}, e
	}
	return c.at(p)
}

// vacant returns ErrThere if there is an object at a location, and OK if there is none.
func vacant(v *volume.Volume, p place) api.Errno {
	switch _, e := dir.Find(v, p.dir, p.name); e {
	case api.OK:
		return api.ErrThere
	case api.ErrNone:
		return api.OK
	default:
		return e
	}
}

// empty returns ErrBusy if there is a name in a directory.
func empty(v *volume.Volume, i int) api.Errno {
	l, e := dir.List(v, i)
	if len(l) > 0 {
		return api.ErrBusy
	}
	return e
}

// hasFree reports whether an inode is free.
func hasFree(v *volume.Volume) bool {
	for i := range v.Geo().Inodes {
		if _, _, e := v.Inode(i); e == api.ErrNone {
			return true
		}
	}
	return false
}

// isBelow reports whether the path s is under t, and another one.
func isBelow(s, t string) bool { return s != t && path.Under(s, t) }
