package volume_test

import (
	"slices"
	"testing"

	"moat/api"
	"moat/volume"
)

// inodeIs makes sure of an inode.
func inodeIs(t *testing.T, v *volume.Volume, i int, want api.Inode, a api.Label) {
	t.Helper()
	if n, b, e := v.Inode(i); n != want || b != a || e != api.OK {
		t.Errorf("Inode %d: got %v, label %d, error %d; want %v, label %d", i, n, b, e, want, a)
	}
}

// noInode makes sure that there is no inode, for all that asks of it.
func noInode(t *testing.T, v *volume.Volume, i int, want api.Errno) {
	t.Helper()
	if n, a, e := v.Inode(i); n != (api.Inode{}) || a != 0 || e != want {
		t.Errorf("Inode %d: got %v, label %d, error %d; want error %d", i, n, a, e, want)
	}
	if e := v.Unmake(i); e != want {
		t.Errorf("Unmake of %d: error %d, want %d", i, e, want)
	}
	for _, n := range []api.Inode{{Kind: 1}, {Kind: 2, Row: 15, Size: 64}} {
		if e := v.Set(i, n); e != want {
			t.Errorf("Set of %d: error %d, want %d", i, e, want)
		}
	}
	for _, n := range wrongInodes(api.Inode{Kind: 1}) {
		if e := v.Set(i, n); e != api.ErrArg {
			t.Errorf("Set of %d to %v: error %d, want %d", i, n, e, api.ErrArg)
		}
	}
}

// makes fails the test unless Make returns that.
func makes(t *testing.T, v *volume.Volume, kind uint8, a api.Label, want int, we api.Errno) {
	t.Helper()
	if i, e := v.Make(kind, a); i != want || e != we {
		t.Errorf("Make of kind %d, label %d: got %d, error %d; want %d, error %d", kind, a, i, e, want, we)
	}
}

// sets fails the test unless Set returns that.
func sets(t *testing.T, v *volume.Volume, i int, n api.Inode, want api.Errno) {
	t.Helper()
	if e := v.Set(i, n); e != want {
		t.Errorf("Set of %d to %v: error %d, want %d", i, n, e, want)
	}
}

// wrongInodes are n, made invalid in each way, or free.
func wrongInodes(n api.Inode) []api.Inode {
	l := []api.Inode{{}}
	with := func(turn func(*api.Inode)) {
		c := n
		turn(&c)
		l = append(l, c)
	}
	for _, k := range []uint8{0, 3, 4, 128, 255} {
		with(func(n *api.Inode) { n.Kind, n.Links = k, 1 })
	}
	for _, row := range []uint8{16, 17, 32, 128, 255} {
		with(func(n *api.Inode) { n.Row = row })
	}
	for _, k := range append([]int{65536, 65537, 1 << 17}, extremes...) {
		with(func(n *api.Inode) { n.Links = k })
	}
	for _, k := range append([]int{3841, 4096, 65535}, extremes...) {
		with(func(n *api.Inode) { n.Size = k })
	}
	for _, k := range append([]int{513, 514, 1024}, extremes...) {
		for i := range n.Direct {
			with(func(n *api.Inode) { n.Direct[i] = k })
		}
		with(func(n *api.Inode) { n.Ind = k })
		with(func(n *api.Inode) { n.Dind = k })
	}
	return slices.DeleteFunc(l, func(n api.Inode) bool { return isInode(n) && n.Kind > 0 })
}

// P15.4: Make

func TestMakeOfEachKind(t *testing.T) {
	v := mounts(t, formatted(t, example, 0))
	for kind := range 256 {
		if kind != 1 && kind != 2 {
			makes(t, v, uint8(kind), 5, 0, api.ErrArg)
		}
	}
	if !sameMeta(v.Meta(), empty(example)) {
		t.Errorf("Meta: got %v", v.Meta())
	}
	makes(t, v, api.KindFile, 5, 0, api.OK)
	makes(t, v, api.KindDir, 5, 1, api.OK)
	makes(t, v, api.KindDir, 0, 2, api.OK)
	makes(t, v, api.KindFile, 65535, 3, api.OK)
	for i, x := range []struct {
		n api.Inode
		a api.Label
	}{{api.Inode{Kind: 1}, 5}, {api.Inode{Kind: 2}, 5}, {api.Inode{Kind: 2, Row: 1}, 0}, {api.Inode{Kind: 1, Row: 2}, 65535}} {
		inodeIs(t, v, i, x.n, x.a)
	}
	rowIs(t, v, 0, api.Row{Label: 5, Refs: 2})
	rowIs(t, v, 1, api.Row{Label: 0, Refs: 1})
	rowIs(t, v, 2, api.Row{Label: 65535, Refs: 1})
}

func TestMakeTakesTheFirstInode(t *testing.T) {
	for _, g := range geometries() {
		p := newPair(t, g)
		for i := range g.Inodes {
			makes(t, p.v, uint8(1+i%2), api.Label(i%16), i, api.OK)
			p.m.make(uint8(1+i%2), api.Label(i%16))
		}
		p.matches()
		// No inode is left: that comes ahead of the row, and behind the kind.
		was := p.v.Meta()
		for _, a := range []api.Label{0, 1, 99} {
			makes(t, p.v, 1, a, 0, api.ErrFull)
			makes(t, p.v, 2, a, 0, api.ErrFull)
			makes(t, p.v, 0, a, 0, api.ErrArg)
		}
		if !sameMeta(p.v.Meta(), was) {
			t.Errorf("Meta: got %v, want %v", p.v.Meta(), was)
		}
		for i := g.Inodes - 1; i >= 0; i -= 2 {
			p.unmake(i)
		}
		for i := range g.Inodes {
			p.make(2, api.Label(100+i%8))
			p.matches()
		}
	}
}

// The inode that gets free has all fields 0 when it is taken again.
func TestMakeAgain(t *testing.T) {
	v := mounts(t, formatted(t, example, 0))
	makes(t, v, 1, 5, 0, api.OK)
	makes(t, v, 1, 6, 1, api.OK)
	sets(t, v, 0, api.Inode{Kind: 1, Links: 3, Size: 70, Direct: [8]int{1, 2}, Ind: 5, Dind: 6}, api.OK)
	if e := v.Unmake(0); e != api.OK {
		t.Errorf("Unmake: error %d", e)
	}
	rowIs(t, v, 0, api.Row{})
	makes(t, v, 2, 6, 0, api.OK)
	inodeIs(t, v, 0, api.Inode{Kind: 2, Row: 1}, 6)
	makes(t, v, 2, 5, 2, api.OK)
	inodeIs(t, v, 2, api.Inode{Kind: 2, Row: 0}, 5)
}

func TestMakeWithoutARow(t *testing.T) {
	g := fitting(40, 10, 2)
	p := newPair(t, g)
	for i := range 9 {
		p.alloc(api.Label(3 * i))
	}
	for i := range 7 {
		p.make(1, api.Label(100+i))
	}
	was := p.v.Meta()
	makes(t, p.v, 1, 200, 0, api.ErrFull)
	makes(t, p.v, 2, 65535, 0, api.ErrFull)
	if !sameMeta(p.v.Meta(), was) {
		t.Errorf("Meta: got %v, want %v", p.v.Meta(), was)
	}
	p.make(2, 24)
	p.make(2, 106)
	p.free(4)
	p.make(1, 200)
	rowIs(t, p.v, 2, api.Row{Label: 200, Refs: 1})
	p.make(1, 201)
	p.matches()
}

// P15.4: Unmake, Inode

func TestInodesThatAreNotThere(t *testing.T) {
	for _, g := range geometries() {
		v := mounts(t, formatted(t, g, 0))
		makes(t, v, 1, 5, 0, api.OK)
		was := v.Meta()
		for _, i := range append([]int{-1, g.Inodes, g.Inodes + 1, 64, 65, 256, 512}, extremes...) {
			noInode(t, v, i, api.ErrArg)
		}
		for i := 1; i < g.Inodes; i++ {
			noInode(t, v, i, api.ErrNone)
		}
		if !sameMeta(v.Meta(), was) {
			t.Errorf("Meta: got %v, want %v", v.Meta(), was)
		}
	}
}

func TestUnmakeReleasesTheRow(t *testing.T) {
	v := mounts(t, formatted(t, example, 0))
	allocates(t, v, 5, 0, api.OK)
	makes(t, v, 1, 5, 0, api.OK)
	makes(t, v, 2, 5, 1, api.OK)
	makes(t, v, 2, 6, 2, api.OK)
	for k, i := range []int{1, 0} {
		if e := v.Unmake(i); e != api.OK {
			t.Errorf("Unmake of %d: error %d", i, e)
		}
		noInode(t, v, i, api.ErrNone)
		rowIs(t, v, 0, api.Row{Label: 5, Refs: 2 - k})
	}
	inodeIs(t, v, 2, api.Inode{Kind: 2, Row: 1}, 6)
	// The group has its owner still.
	owns(t, v, 1, 0)
	frees(t, v, 0, api.OK)
	rowIs(t, v, 0, api.Row{})
	rowIs(t, v, 1, api.Row{Label: 6, Refs: 1})
}

// P15.4: Set

func TestSet(t *testing.T) {
	for _, g := range geometries() {
		v := mounts(t, formatted(t, g, 0))
		makes(t, v, 1, 5, 0, api.OK)
		makes(t, v, 2, 6, 1, api.OK)
		for _, n := range []api.Inode{
			{Links: 1}, {Links: 65535, Size: 3840, Ind: 512, Dind: 512}, {Size: 1, Direct: [8]int{1, 2, 3, 4, 5, 6, 7, 512}}, {Dind: 1}, {},
		} {
			n.Kind, n.Row = 1, 0
			sets(t, v, 0, n, api.OK)
			inodeIs(t, v, 0, n, 5)
			n.Kind, n.Row = 2, 1
			sets(t, v, 1, n, api.OK)
			inodeIs(t, v, 1, n, 6)
		}
		rowIs(t, v, 0, api.Row{Label: 5, Refs: 1})
		rowIs(t, v, 1, api.Row{Label: 6, Refs: 1})
	}
}

func TestSetRefuses(t *testing.T) {
	v := mounts(t, formatted(t, example, 0))
	makes(t, v, 1, 5, 0, api.OK)
	makes(t, v, 2, 6, 1, api.OK)
	makes(t, v, 1, 7, 2, api.OK)
	one, two := api.Inode{Kind: 1, Links: 2, Size: 9}, api.Inode{Kind: 2, Row: 1, Links: 1, Direct: [8]int{4}}
	sets(t, v, 0, one, api.OK)
	sets(t, v, 1, two, api.OK)
	was := v.Meta()
	for _, n := range []api.Inode{one, two} {
		for _, w := range wrongInodes(n) {
			for i := -1; i <= 8; i++ {
				sets(t, v, i, w, api.ErrArg)
			}
		}
	}
	sets(t, v, 0, two, api.ErrArg)
	sets(t, v, 1, one, api.ErrArg)
	for kind := range 3 {
		for row := range 20 {
			n := api.Inode{Kind: uint8(kind), Row: uint8(row)}
			if kind != 1 || row != 0 {
				sets(t, v, 0, n, api.ErrArg)
			}
			if kind != 2 || row != 1 {
				sets(t, v, 1, n, api.ErrArg)
			}
			if kind != 1 || row != 2 {
				sets(t, v, 2, n, api.ErrArg)
			}
		}
	}
	if !sameMeta(v.Meta(), was) {
		t.Errorf("Meta: got %v, want %v", v.Meta(), was)
	}
}
