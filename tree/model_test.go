package tree_test

import (
	"maps"
	"slices"
	"strings"
	"testing"

	"moat/api"
	"moat/dir"
	"moat/disk"
	"moat/file"
	"moat/tree"
	"moat/volume"
)

// namesOf holds a path against the words of layer 13 and of layer 12.
func namesOf(s string) ([]string, bool) {
	if s == "/" {
		return nil, true
	}
	l := strings.Split(s, "/")
	if len(l) < 2 || l[0] != "" || len(l) > 17 {
		return nil, false
	}
	for _, name := range l[1:] {
		if len(name) < 1 || len(name) > 13 || strings.Contains(name, "\x00") || name == "." || name == ".." {
			return nil, false
		}
	}
	return l[1:], true
}

// flows reports whether each category of a is one of b.
func flows(a, b api.Label) bool {
	for k := range 16 {
		if a>>k&1 > b>>k&1 {
			return false
		}
	}
	return true
}

// A knot is an inode.
type knot struct {
	kind        uint8
	label       api.Label
	links, size int
	names       map[string]int // of a directory
}

// A world is all inodes that are not free, by their numbers.
type world map[int]knot

// worldOf reads a world from a volume in which nothing is damaged.
func worldOf(t *testing.T, v *volume.Volume) world {
	t.Helper()
	w := world{}
	for i := range v.Geo().Inodes {
		n, a, e := v.Inode(i)
		if e != api.OK {
			continue
		}
		k := knot{kind: n.Kind, label: a, links: n.Links, size: n.Size}
		if n.Kind == kindDir {
			l, e := dir.List(v, i)
			if e != api.OK {
				t.Fatalf("entries of %d: error %d", i, e)
			}
			k.names = map[string]int{}
			for _, x := range l {
				k.names[x.Name] = x.Inode
			}
		}
		w[i] = k
	}
	return w
}

// lookup is that of P18.1.
func (w world) lookup(a api.Label, i int, name string) (int, api.Errno) {
	k, is := w[i]
	n, has := k.names[name]
	switch {
	case !is:
		return 0, api.ErrNone
	case !flows(k.label, a):
		return 0, api.ErrFlow
	case k.kind != kindDir:
		return 0, api.ErrDir
	case !has:
		return 0, api.ErrNone
	}
	return n, api.OK
}

func (w world) walk(a api.Label, path string) (int, api.Errno) {
	l, is := namesOf(path)
	if !is {
		return 0, api.ErrPath
	}
	at := 0
	for _, name := range l {
		i, e := w.lookup(a, at, name)
		if e != api.OK {
			return 0, e
		}
		at = i
	}
	return at, api.OK
}

func (w world) stat(a api.Label, path string) (api.Stat, api.Errno) {
	i, e := w.walk(a, path)
	k, is := w[i]
	switch {
	case e != api.OK:
		return api.Stat{}, e
	case !is:
		return api.Stat{}, api.ErrNone
	case !flows(k.label, a):
		return api.Stat{}, api.ErrFlow
	}
	return api.Stat{Kind: k.kind, Label: k.label, Links: k.links, Size: k.size}, api.OK
}

func (w world) list(a api.Label, path string) ([]string, api.Errno) {
	if _, e := w.stat(a, path); e != api.OK {
		return nil, e
	}
	i, _ := w.walk(a, path)
	if w[i].kind != kindDir {
		return nil, api.ErrDir
	}
	return slices.Sorted(maps.Keys(w[i].names)), api.OK
}

// A spot is a location, and the object there; -1 if there is none.
type spot struct {
	in   int
	name string
	i    int
}

// spot returns a location, with the error of the location and that of the object.
func (w world) spot(a api.Label, path string) (spot, api.Errno, api.Errno) {
	l, is := namesOf(path)
	if !is || path == "/" {
		return spot{}, api.ErrPath, 0
	}
	last := len(l) - 1
	in, e := w.walk(a, "/"+strings.Join(l[:last], "/"))
	k, is := w[in]
	switch {
	case e != api.OK:
		return spot{}, e, 0
	case !is:
		return spot{}, api.ErrNone, 0
	case !flows(k.label, a):
		return spot{}, api.ErrFlow, 0
	case k.kind != kindDir:
		return spot{}, api.ErrDir, 0
	case k.label != a:
		return spot{}, api.ErrFlow, 0
	}
	i, is := k.names[l[last]]
	switch {
	case !is:
		return spot{in, l[last], -1}, api.OK, api.ErrNone
	case w[i].label != a:
		return spot{in, l[last], i}, api.OK, api.ErrFlow
	}
	return spot{in, l[last], i}, api.OK, api.OK
}

// first returns the first error.
func first(l ...api.Errno) api.Errno {
	for _, e := range l {
		if e != api.OK {
			return e
		}
	}
	return api.OK
}

// when returns an error if there is a reason for it.
func when(is bool, e api.Errno) api.Errno {
	if is {
		return e
	}
	return api.OK
}

// A model does to a volume of its own what the chapter asks for. What a call answers is decided by a world that is read ahead of it.
type model struct {
	t *testing.T
	v *volume.Volume
}

func (m *model) world() world { return worldOf(m.t, m.v) }

// try begins, and does what is to be done, or nothing.
func (m *model) try(change func() api.Errno) api.Errno {
	e := m.v.Begin()
	if e != api.OK {
		return e
	}
	e = change()
	if e != api.OK {
		m.v.Abort()
	}
	return e
}

// count changes the links of an inode.
func (m *model) count(i, by int) api.Errno {
	n, _, _ := m.v.Inode(i)
	n.Links += by
	return m.v.Set(i, n)
}

func (m *model) add(s spot, i int) api.Errno {
	return dir.Add(m.v, s.in, api.Entry{Name: s.name, Inode: i})
}

func (m *model) init() api.Errno {
	if _, is := m.world()[0]; is {
		return api.ErrThere
	}
	i, e := m.v.Make(kindDir, 0)
	if e == api.OK {
		m.count(i, 1)
	}
	return e
}

func (m *model) create(a api.Label, path string, kind uint8, b api.Label) (int, api.Errno) {
	w := m.world()
	s, e, at := w.spot(a, path)
	e = first(when(kind != 1 && kind != 2, api.ErrArg), e, when(!flows(a, b), api.ErrFlow), when(at != api.ErrNone, api.ErrThere), when(len(w) == m.v.Geo().Inodes, api.ErrFull))
	if e != api.OK {
		return 0, e
	}
	made := 0
	e = m.try(func() api.Errno {
		i, e := m.v.Make(kind, b)
		if e != api.OK {
			return e
		}
		made = i
		return first(m.count(i, 1), m.add(s, i))
	})
	if e != api.OK {
		return 0, e
	}
	return made, api.OK
}

func (m *model) link(a api.Label, old, now string) api.Errno {
	w := m.world()
	x, e1, e2 := w.spot(a, old)
	to, e3, at := w.spot(a, now)
	e := first(e1, e2, when(w[x.i].kind == kindDir, api.ErrDir), e3, when(at != api.ErrNone, api.ErrThere), when(w[x.i].links == mostRefs, api.ErrLong))
	if e != api.OK {
		return e
	}
	return m.try(func() api.Errno { return first(m.add(to, x.i), m.count(x.i, 1)) })
}

func (m *model) unlink(a api.Label, path string) (int, bool, api.Errno) {
	w := m.world()
	x, e1, e2 := w.spot(a, path)
	e := first(e1, e2, when(w[x.i].kind == kindDir, api.ErrDir))
	if e == api.OK {
		e = m.try(func() api.Errno { return first(dir.Remove(m.v, x.in, x.name), m.count(x.i, -1)) })
	}
	if e != api.OK {
		return 0, false, e
	}
	return x.i, w[x.i].links == 1, api.OK
}

func (m *model) rmdir(a api.Label, path string) api.Errno {
	w := m.world()
	x, e1, e2 := w.spot(a, path)
	e := first(e1, e2, when(w[x.i].kind != kindDir, api.ErrDir), when(len(w[x.i].names) > 0, api.ErrBusy))
	if e != api.OK {
		return e
	}
	return m.try(func() api.Errno { return first(dir.Remove(m.v, x.in, x.name), file.Drop(m.v, x.i)) })
}

func (m *model) rename(a api.Label, old, now string) (int, bool, api.Errno) {
	w := m.world()
	x, e1, e2 := w.spot(a, old)
	to, e3, at := w.spot(a, now)
	object, other := w[x.i], w[to.i]
	e := first(e1, e2, when(object.kind == kindDir && strings.HasPrefix(now, old+"/") && isPath(now), api.ErrArg), e3)
	switch {
	case e != api.OK:
		return 0, false, e
	case at == api.ErrNone:
		return 0, false, m.try(func() api.Errno { return first(dir.Remove(m.v, x.in, x.name), m.add(to, x.i)) })
	case at == api.ErrFlow:
		return 0, false, at
	case to.i == x.i:
		return 0, false, api.OK
	case (object.kind == kindDir) != (other.kind == kindDir):
		return 0, false, api.ErrDir
	case len(other.names) > 0:
		return 0, false, api.ErrBusy
	}
	e = m.try(func() api.Errno {
		e := dir.Remove(m.v, x.in, x.name)
		_, f := dir.Replace(m.v, to.in, api.Entry{Name: to.name, Inode: x.i})
		if other.kind == kindDir {
			return first(e, f, file.Drop(m.v, to.i))
		}
		return first(e, f, m.count(to.i, -1))
	})
	if e != api.OK || other.kind == kindDir {
		return 0, false, e
	}
	return to.i, other.links == 1, api.OK
}

func isPath(s string) bool {
	_, is := namesOf(s)
	return is
}

func (m *model) release(i int) api.Errno {
	if i < 0 || i >= m.v.Geo().Inodes {
		return api.ErrArg
	}
	k, is := m.world()[i]
	if e := first(when(!is, api.ErrNone), when(k.links > 0, api.ErrBusy)); e != api.OK {
		return e
	}
	return m.try(func() api.Errno { return file.Drop(m.v, i) })
}

// reap begins again where the journal might not have room for all that is dropped.
func (m *model) reap() (int, api.Errno) {
	n, room := 0, 0
	w := m.world()
	for _, i := range slices.Sorted(maps.Keys(w)) {
		if w[i].links > 0 {
			continue
		}
		l, _ := file.Blocks(m.v, i)
		if n == 0 || room < len(l) {
			if e := m.v.Begin(); e != api.OK {
				return 0, e
			}
			room = 80
		}
		if e := file.Drop(m.v, i); e != api.OK {
			m.t.Fatalf("Drop of %d: error %d", i, e)
		}
		room -= len(l)
		n++
	}
	return n, api.OK
}

// A pair is a volume on which the package works, and a model on another one.
type pair struct {
	*model
	v    *volume.Volume
	d, o *disk.Disk
}

// newPair returns a pair on copies of a disk.
func newPair(t *testing.T, base *disk.Disk) *pair {
	t.Helper()
	d, o := base.Copy(), base.Copy()
	return &pair{model: &model{t: t, v: mounts(t, o)}, v: mounts(t, d), d: d, o: o}
}

func (p *pair) same(what string, e, want api.Errno) api.Errno {
	p.t.Helper()
	if e != want {
		p.t.Fatalf("%s: error %d, want %d", what, e, want)
	}
	return e
}

func (p *pair) init() {
	p.t.Helper()
	p.same("Init", tree.Init(p.v), p.model.init())
}

func (p *pair) create(a api.Label, path string, kind uint8, b api.Label) api.Errno {
	p.t.Helper()
	want, we := p.model.create(a, path, kind, b)
	if i, e := tree.Create(p.v, a, path, kind, b); i != want || e != we {
		p.t.Fatalf("Create of %q, kind %d, label %d by %d: got %d, error %d; want %d, error %d", path, kind, b, a, i, e, want, we)
	}
	return we
}

func (p *pair) link(a api.Label, old, now string) {
	p.t.Helper()
	linked(p.t, p.v, a, old, now, p.model.link(a, old, now))
}

func (p *pair) unlink(a api.Label, path string) (int, bool) {
	p.t.Helper()
	i, last, e := p.model.unlink(a, path)
	unlinks(p.t, p.v, a, path, i, last, e)
	return i, last
}

func (p *pair) rmdir(a api.Label, path string) {
	p.t.Helper()
	rmdirs(p.t, p.v, a, path, p.model.rmdir(a, path))
}

func (p *pair) rename(a api.Label, old, now string) (int, bool) {
	p.t.Helper()
	i, last, e := p.model.rename(a, old, now)
	renames(p.t, p.v, a, old, now, i, last, e)
	return i, last
}

func (p *pair) release(i int) {
	p.t.Helper()
	releases(p.t, p.v, i, p.model.release(i))
}

func (p *pair) reap() {
	p.t.Helper()
	n, e := p.model.reap()
	reaps(p.t, p.v, n, e)
}

// write writes to an inode without this package; behind an error everything is undone.
func (p *pair) write(i, at int, b []byte) {
	p.t.Helper()
	p.begin()
	if p.same("Write", file.Write(p.v, i, at, b), file.Write(p.model.v, i, at, b)) != api.OK {
		p.abort()
	}
}

func (p *pair) begin() {
	p.t.Helper()
	p.same("Begin", p.v.Begin(), p.model.v.Begin())
}

func (p *pair) abort() {
	p.v.Abort()
	p.model.v.Abort()
}

func (p *pair) sync() {
	p.t.Helper()
	p.same("Sync", p.v.Sync(), p.model.v.Sync())
}

// again mounts both volumes once more.
func (p *pair) again() {
	p.t.Helper()
	p.sync()
	p.v, p.model.v = mounts(p.t, p.d), mounts(p.t, p.o)
}

// asks compares what can be known of a path.
func (p *pair) asks(w world, a api.Label, path string) {
	p.t.Helper()
	i, e := w.walk(a, path)
	walks(p.t, p.v, a, path, i, e)
	s, e := w.stat(a, path)
	stats(p.t, p.v, a, path, s, e)
	l, e := w.list(a, path)
	lists(p.t, p.v, a, path, l, e)
}

// agrees compares both volumes.
func (p *pair) agrees() {
	p.t.Helper()
	samePicture(p.t, pictured(p.v), pictured(p.model.v))
}
