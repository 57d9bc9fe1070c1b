package tree_test

import (
	"bytes"
	"maps"
	"slices"
	"strconv"
	"strings"
	"testing"

	"moat/api"
	"moat/disk"
	"moat/tree"
)

// grown returns the disk of a volume with directories and files of several labels. One file has as many links as it may have, though not the names.
func grown(t *testing.T) *disk.Disk {
	t.Helper()
	v, d := rootedOn(t, roomy)
	makes(t, v, 0, "/d/", "/d/f", "/d/e/", "/p", "/q/", "/q/f", "/m")
	linked(t, v, 0, "/d/f", "/l", api.OK)
	creates(t, v, 0, "/o", kindFile, 2)
	creates(t, v, 0, "/s", kindDir, 2)
	makes(t, v, 2, "/s/f", "/s/h", "/s/d/", "/s/d/x", "/s/e/")
	linked(t, v, 2, "/s/f", "/s/g", api.OK)
	creates(t, v, 2, "/s/t", kindDir, 6)
	makes(t, v, 6, "/s/t/f")
	creates(t, v, 0, "/u", kindDir, 4)
	makes(t, v, 4, "/u/f")
	m, _ := tree.Walk(v, 0, "/m")
	links(t, v, m, mostRefs)
	f, _ := tree.Walk(v, 2, "/s/f")
	writes(t, v, f, 30, []byte("moat"))
	syncs(t, v)
	return d
}

// grownPaths are those of all that is there, of some that is not, and some that are no paths.
var grownPaths = []string{
	"/", "/d", "/d/f", "/d/e", "/p", "/q", "/q/f", "/m", "/l", "/o", "/s", "/s/f", "/s/h", "/s/d", "/s/d/x", "/s/e", "/s/g", "/s/t", "/s/t/f", "/u", "/u/f",
	"/n", "/d/n", "/d/e/n", "/q/n/n", "/p/n", "/l/f", "/o/n", "/s/n", "/s/d/n", "/s/e/n", "/s/t/n", "/s/t/f/n", "/u/n", "/n/n", "/dd", "/d/f/f/f", "/q/f/n",
	"", "d", "/d/", "//d", "/d/..", "/s/./f", "/nnnnnnnnnnnnnn", "/d/nnnnnnnnnnnnn", "/1/2/3/4/5/6/7/8/9/1/2/3/4/5/6/7", "/1/2/3/4/5/6/7/8/9/1/2/3/4/5/6",
}

// each compares a call with the model's, and undoes both.
func (p *pair) each(call func()) {
	p.t.Helper()
	p.begin()
	mark(p.t, p.v, 1)
	mark(p.t, p.model.v, 1)
	call()
	if !slices.Equal(p.v.Meta().Inodes, p.model.v.Meta().Inodes) || p.v.Dirty() != p.model.v.Dirty() {
		p.agrees()
	}
	// A call that did something has called Begin, and is undone alone.
	p.abort()
	if n, _, _ := p.v.Inode(0); n.Links != 1 {
		mark(p.t, p.v, -1)
		mark(p.t, p.model.v, -1)
	}
	if !slices.Equal(p.v.Meta().Inodes, p.model.v.Meta().Inodes) || p.v.Dirty() != 0 {
		p.agrees()
	}
}

func TestQuestionsAsTheModel(t *testing.T) {
	p := newPair(t, grown(t))
	w := p.world()
	was := pictured(p.v)
	for _, a := range labels {
		for _, path := range grownPaths {
			p.asks(w, a, path)
		}
	}
	samePicture(t, pictured(p.v), was)
	for _, a := range labels {
		for _, path := range grownPaths {
			leaves(t, p.v, func() {
				tree.Walk(p.v, a, path)
				tree.Stat(p.v, a, path)
				tree.List(p.v, a, path)
			})
		}
	}
}

// Each call of each caller, for all paths and for all pairs of them.
func TestCallsAsTheModel(t *testing.T) {
	p := newPair(t, grown(t))
	for _, a := range labels {
		for _, path := range grownPaths {
			for _, b := range labels {
				for kind := range uint8(4) {
					p.each(func() { p.create(a, path, kind, b) })
				}
			}
			p.each(func() { p.unlink(a, path) })
			p.each(func() { p.rmdir(a, path) })
			p.agrees()
		}
	}
	for _, i := range append([]int{0, 1, 2, 17, 18, 19, 22, 23, 24, 25}, extremes...) {
		p.each(func() { p.release(i) })
	}
	p.each(p.reap)
	p.each(p.init)
	p.agrees()
}

func TestCallsOfTwoPathsAsTheModel(t *testing.T) {
	p := newPair(t, grown(t))
	for _, a := range labels[:5] {
		for _, old := range grownPaths {
			for _, now := range grownPaths {
				p.each(func() { p.link(a, old, now) })
				p.each(func() { p.rename(a, old, now) })
			}
			p.agrees()
		}
	}
}

// short does one of the things of short runs.
func (p *pair) short(thing int) {
	p.t.Helper()
	switch thing {
	case 0, 1, 2:
		p.create(0, []string{"/a", "/b", "/d"}[thing], []uint8{1, 1, 2}[thing], 0)
	case 3:
		p.create(0, "/d/a", 2, 0)
	case 4:
		p.create(0, "/d", 2, 4)
	case 5:
		p.create(4, "/d/a", 1, 4)
	case 6:
		p.link(0, "/a", "/b")
	case 7:
		p.link(0, "/b", "/d/a")
	case 8, 9, 10:
		p.unlink(0, []string{"/a", "/b", "/d/a"}[thing-8])
	case 11:
		p.rmdir(0, "/d")
	case 12, 13, 14, 15, 16:
		p.rename(0, []string{"/a", "/a", "/b", "/d", "/d/a"}[thing-12], []string{"/b", "/d", "/d/a", "/a", "/d"}[thing-12])
	case 17:
		p.release(1)
	case 18:
		p.reap()
	case 19:
		if n, _, _ := p.v.Inode(1); n.Kind == kindFile {
			p.write(1, 0, bytes.Repeat([]byte{7}, 130))
		}
	case 20:
		p.abort()
	default:
		p.sync()
	}
}

const shortThings = 22

// All runs of three calls, in volumes with room and with too little of it.
func TestAllShortRunsAsTheModel(t *testing.T) {
	for _, prefix := range [][]int{nil, {0, 6, 2, 19}, {2, 3, 1, 7, 21}} {
		for _, n := range []int{3, 12} {
			v, d := rootedOn(t, full(n))
			syncs(t, v)
			for run := range shortThings * shortThings * shortThings {
				p := newPair(t, d)
				for _, thing := range prefix {
					p.short(thing)
				}
				for k, left := 0, run; k < 3; k, left = k+1, left/shortThings {
					p.short(left % shortThings)
				}
				p.agrees()
				if t.Failed() {
					t.Fatalf("run %d behind %v", run, prefix)
				}
			}
		}
	}
}

// A walker does long runs of calls.
type walker struct {
	*pair
	dice
	labels []api.Label
	names  int // how many there are
}

// label returns one of a few labels.
func (x *walker) label() api.Label { return x.labels[x.under(len(x.labels))] }

// paths returns all paths under one, each with the label of its directory.
func (w world) paths(path string, at int) []spot {
	var l []spot
	k := w[at]
	if path == "/" {
		path = ""
	}
	for _, name := range slices.Sorted(maps.Keys(k.names)) {
		l = append(l, spot{at, path + "/" + name, k.names[name]})
		l = append(l, w.paths(path+"/"+name, k.names[name])...)
	}
	return l
}

// spot returns a path, mostly one that is there or one in a directory that is there, and a caller who mostly may do something there; it tries to find one for a certain caller.
func (x *walker) spot(by api.Label) (string, api.Label) {
	if x.under(40) == 0 {
		return wrongPaths[x.under(len(wrongPaths))], x.label()
	}
	w := x.world()
	l := append(w.paths("/", 0), spot{0, "/", 0})
	var path string
	var a api.Label
	for range 9 {
		s := l[x.under(len(l))]
		path, a = s.name, w[s.in].label
		if x.under(2) == 0 && (w[s.i].kind == kindDir || x.under(8) == 0) {
			path, a = strings.TrimSuffix(path, "/")+"/n"+strconv.Itoa(x.under(x.names)), w[s.i].label
		}
		if a == by && (path != "/" || x.under(9) == 0) {
			break
		}
	}
	if x.under(8) == 0 {
		a = x.label()
	}
	return path, a
}

// step does one thing.
func (x *walker) step(grows bool) {
	x.t.Helper()
	path, a := x.spot(x.label())
	to, _ := x.spot(a)
	b := a
	if x.under(3) == 0 {
		b = a | x.label()
	}
	i := x.under(x.v.Geo().Inodes)
	switch k := x.under(40); {
	case k < 14 && grows || k < 5:
		x.create(a, path, uint8(1+x.under(2)), b)
	case k < 17:
		x.link(a, path, to)
	case k < 24:
		x.rename(a, path, to)
	case k < 27:
		x.unlink(a, path)
	case k < 31:
		x.rmdir(a, path)
	case k < 34:
		if n, _, _ := x.v.Inode(i); n.Kind == kindFile {
			x.write(i, 32*x.under(30), []byte("moat"))
		}
	case k < 36:
		x.release(i)
	case k < 37:
		x.reap()
	case k < 38:
		x.abort()
	case x.under(3) == 0:
		x.again()
	default:
		x.sync()
	}
}

// Long runs on volumes of several forms, with few labels and with many.
func TestLongRunsAsTheModel(t *testing.T) {
	many := make([]api.Label, 20)
	for k := range many {
		many[k] = api.Label(k * 3)
	}
	for k, g := range []api.Geo{roomy, large, tight, full(3), full(9), {Journal: 110, Inodes: 16, Groups: 5, PerGroup: 2}} {
		_, base := mounted(t, g)
		for seed := range 4 {
			x := &walker{newPair(t, base), dice(100*k + seed), []([]api.Label){{0}, {0, 2}, labels, many}[seed], 5 + 5*seed}
			x.init()
			for c := range 800 {
				x.step(c/100%2 == 0)
				if c%10 == 0 {
					x.agrees()
					sound(t, x.v)
				}
			}
			w := x.world()
			for range 50 {
				path, a := x.spot(x.label())
				x.asks(w, a, path)
			}
			x.sync()
			x.agrees()
			sameDisk(t, x.d, x.o)
		}
	}
}
