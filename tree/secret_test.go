package tree_test

import (
	"slices"
	"strconv"
	"strings"
	"testing"

	"moat/api"
	"moat/disk"
	"moat/tree"
	"moat/volume"
)

// A request is a call with what it is given.
type request struct {
	call     int
	a        api.Label
	path, to string
	kind     uint8
	b        api.Label
}

const requests = 8 // kinds of calls

// A reply is what a call answers. The number of an inode is one of its own volume.
type reply struct {
	e     api.Errno
	i     int
	last  bool
	stat  api.Stat
	names []string
}

// ask calls, and releases a file that has lost its last name.
func (q request) ask(t *testing.T, v *volume.Volume) reply {
	t.Helper()
	var r reply
	switch q.call {
	case 0:
		r.i, r.e = tree.Create(v, q.a, q.path, q.kind, q.b)
	case 1:
		r.e = tree.Link(v, q.a, q.path, q.to)
	case 2:
		r.i, r.last, r.e = tree.Unlink(v, q.a, q.path)
	case 3:
		r.e = tree.Rmdir(v, q.a, q.path)
	case 4:
		r.i, r.last, r.e = tree.Rename(v, q.a, q.path, q.to)
	case 5:
		r.stat, r.e = tree.Stat(v, q.a, q.path)
	case 6:
		r.names, r.e = tree.List(v, q.a, q.path)
	default:
		r.i, r.e = tree.Walk(v, q.a, q.path)
	}
	if r.last {
		releases(t, v, r.i, api.OK)
	}
	return r
}

// seen returns all that can be known of a path, and of all that is under it, by one with that label.
func seen(v *volume.Volume, a api.Label, path string) []string {
	s, e := tree.Stat(v, a, path)
	l, f := tree.List(v, a, path)
	text := path
	for _, n := range []int{int(e), int(s.Kind), int(s.Label), s.Links, s.Size, int(f), len(l)} {
		text += " " + strconv.Itoa(n)
	}
	all := []string{text}
	for _, name := range l {
		in := path + "/" + name
		if path == "/" {
			in = path + name
		}
		all = append(all, seen(v, a, in)...)
	}
	return all
}

// A watch is two volumes: all calls are made on the first one, and on the second one only those of callers whose label flows to that of the one who watches.
type watch struct {
	t             *testing.T
	all, some     *volume.Volume
	eye           api.Label
	number        map[int]int // of an inode of the first volume in the second one
	shown, hidden int         // how many calls that changed something were made on both volumes, and how many on the first one alone
}

// same makes sure that a call is answered by both volumes as by one.
func (w *watch) same(q request, r, o reply) {
	w.t.Helper()
	switch {
	case q.call == 0 && r.e == api.OK:
		w.number[r.i] = o.i
	case q.call == 2 || q.call == 4 || q.call == 7:
		if r.i > 0 {
			r.i = w.number[r.i]
		}
		if r.i != o.i {
			w.t.Fatalf("%v: got inode %d and %d", q, r.i, o.i)
		}
	}
	if r.e != o.e || r.last != o.last || r.stat != o.stat || !slices.Equal(r.names, o.names) {
		w.t.Fatalf("%v for %d: got %v, and %v without the calls of others", q, w.eye, r, o)
	}
}

// ask makes a call, and looks at what there is to be seen of it.
func (w *watch) ask(q request) {
	w.t.Helper()
	r := q.ask(w.t, w.all)
	if r.e == api.ErrFull {
		w.t.Fatalf("%v: there is no room", q)
	}
	changed := r.e == api.OK && q.call < 5
	if flows(q.a, w.eye) {
		w.same(q, r, q.ask(w.t, w.some))
		if changed {
			w.shown++
		}
	} else if changed {
		w.hidden++
	}
	for _, a := range []api.Label{w.eye, 0} {
		if l, o := seen(w.all, a, "/"), seen(w.some, a, "/"); !slices.Equal(l, o) {
			w.t.Fatalf("behind %v: %d sees %q, and %q without the calls of others", q, a, l, o)
		}
	}
}

// P18.8: what a caller does is not to be seen by others to whom his label does not flow, neither in what there is nor in what they are answered.
func TestSecrets(t *testing.T) {
	for k, eye := range []api.Label{0, 2, 4, 6, 10} {
		_, base := mounted(t, large)
		shown, hidden := 0, 0
		for seed := range 6 {
			w := &watch{t: t, all: mounts(t, base.Copy()), some: mounts(t, base.Copy()), eye: eye, number: map[int]int{}}
			tree.Init(w.all)
			tree.Init(w.some)
			x := &walker{&pair{model: &model{t: t, v: w.all}, v: w.all}, dice(100*k + seed), []api.Label{0, 2, 4, 6, 8, 10, 14}, 12}
			for range 400 {
				q := x.request()
				if q.call != 0 || inodes(w.all) < 24 {
					w.ask(q)
				}
			}
			shown, hidden = shown+w.shown, hidden+w.hidden
		}
		if shown < 50 || hidden < 50 {
			t.Errorf("eye %d: %d calls that may be seen changed something, and %d others", eye, shown, hidden)
		}
	}
}

// request returns any call, of which more are made than taken back.
func (x *walker) request() request {
	q := request{call: x.under(requests + 4), kind: uint8(1 + x.under(2))}
	if q.call >= requests {
		q.call = 0
	}
	q.path, q.a = x.spot(x.label())
	if i, e := x.world().stat(q.a, q.path); q.call == 0 && e == api.OK && i.Kind == kindDir && i.Label == q.a {
		q.path = strings.TrimSuffix(q.path, "/") + "/n" + strconv.Itoa(x.under(x.names))
	}
	q.to, _ = x.spot(q.a)
	q.b = q.a
	if x.under(2) == 0 {
		q.b |= x.label()
	}
	return q
}

// Each call of each caller on a volume with a bit of everything, looked at with each other label.
func TestSecretsOfEachCall(t *testing.T) {
	d := grown(t)
	v := mounts(t, d)
	look := func() map[api.Label][]string {
		all := map[api.Label][]string{}
		for _, a := range labels {
			all[a] = seen(v, a, "/")
		}
		return all
	}
	was := look()
	for _, a := range labels {
		for _, path := range grownPaths {
			for _, to := range grownPaths {
				for call := range 5 {
					if call != 1 && call != 4 && to != "/" {
						continue
					}
					for _, b := range []api.Label{a, a | 6, 0} {
						r := request{call, a, path, to, kindFile, b}.ask(t, v)
						if r.e != api.OK {
							continue
						}
						for eye, l := range look() {
							if !flows(a, eye) && !slices.Equal(l, was[eye]) {
								t.Fatalf("call %d of %q and %q by %d: %d sees %q", call, path, to, a, eye, l)
							}
						}
						v = mounts(t, d)
					}
				}
			}
		}
	}
}

// How a power failure ends: what a call has changed is on the disk as a whole, or not at all.
func TestPowerFailures(t *testing.T) {
	steps := []func(v *volume.Volume) api.Errno{
		func(v *volume.Volume) api.Errno { _, e := tree.Create(v, 0, "/d", kindDir, 0); return e },
		func(v *volume.Volume) api.Errno { _, e := tree.Create(v, 0, "/d/f", kindFile, 0); return e },
		func(v *volume.Volume) api.Errno { return tree.Link(v, 0, "/d/f", "/g") },
		func(v *volume.Volume) api.Errno { _, e := tree.Create(v, 0, "/d/e", kindDir, 2); return e },
		func(v *volume.Volume) api.Errno { _, e := tree.Create(v, 2, "/d/e/x", kindFile, 2); return e },
		func(v *volume.Volume) api.Errno { _, _, e := tree.Rename(v, 0, "/d", "/h"); return e },
		func(v *volume.Volume) api.Errno { _, _, e := tree.Rename(v, 0, "/g", "/h/f"); return e },
		func(v *volume.Volume) api.Errno { _, _, e := tree.Unlink(v, 0, "/g"); return e },
		func(v *volume.Volume) api.Errno { _, _, e := tree.Rename(v, 0, "/h/f", "/i"); return e },
		func(v *volume.Volume) api.Errno { _, _, e := tree.Unlink(v, 0, "/i"); return e },
		func(v *volume.Volume) api.Errno { _, e := tree.Reap(v); return e },
	}
	for cut := 0; ; cut++ {
		v, d := rootedOn(t, tight)
		syncs(t, v)
		states := [][]string{seen(v, 2, "/")}
		d.Cut(cut)
		var e api.Errno
		for _, step := range steps {
			if e = step(v); e != api.OK {
				break
			}
			states = append(states, seen(v, 2, "/"))
		}
		if e == api.OK {
			e = v.Sync()
		}
		survivors(t, d, states)
		if e == api.OK {
			break
		}
	}
}

// survivors makes sure that one of these states is there behind a power failure, whichever writes survive.
func survivors(t *testing.T, d *disk.Disk, states [][]string) {
	t.Helper()
	for _, there := range []uint64{0, 1, 2, 3, 0x5555555555555555, 0xFFFFFFFFFFFFFFFF} {
		c := d.Copy()
		c.Crash(there)
		v := mounts(t, c)
		l := seen(v, 2, "/")
		if !slices.ContainsFunc(states, func(s []string) bool { return slices.Equal(s, l) }) {
			t.Fatalf("got %q, and none of %q", l, states)
		}
		tree.Reap(v)
		sound(t, v)
	}
}
