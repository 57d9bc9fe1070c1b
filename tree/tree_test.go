package tree_test

import (
	"bytes"
	"slices"
	"strconv"
	"strings"
	"testing"

	"moat/api"
	"moat/dir"
	"moat/file"
	"moat/tree"
	"moat/volume"
)

// The example of the chapter.
func TestExample(t *testing.T) {
	v := rooted(t, roomy)
	makes(t, v, 0, "/a/")
	creates(t, v, 0, "/a/s", kindFile, 2)
	stats(t, v, 0, "/a/s", api.Stat{}, api.ErrFlow)
	stats(t, v, 2, "/a/s", api.Stat{Kind: kindFile, Label: 2, Links: 1}, api.OK)
	uncreated(t, v, 2, "/a/t", kindFile, 2, api.ErrFlow)
}

// P18.1: Init

func TestInit(t *testing.T) {
	for _, g := range []api.Geo{roomy, large, tight, full(1), {Journal: 100, Inodes: 2, Groups: 1, PerGroup: 1}} {
		v, d := mounted(t, g)
		begins(t, v)
		if tree.Root != 0 || tree.Init(v) != api.OK {
			t.Fatal("Init")
		}
		if n, a, e := v.Inode(0); n != (api.Inode{Kind: kindDir, Links: 1}) || a != 0 || e != api.OK {
			t.Errorf("root: got %v, label %d, error %d", n, a, e)
		}
		if inodes(v) != 1 || inUse(v) != 0 || v.Dirty() != 0 || d.Done() == 0 {
			t.Errorf("%d inodes, %d blocks in use, Dirty %d", inodes(v), inUse(v), v.Dirty())
		}
		lists(t, v, 0, "/", nil, api.OK)
		// It did not call Begin.
		v.Abort()
		if inodes(v) != 0 {
			t.Error("Abort left a root")
		}
		if e := tree.Init(v); e != api.OK {
			t.Errorf("Init once more: error %d", e)
		}
		leaves(t, v, func() {
			if e := tree.Init(v); e != api.ErrThere {
				t.Errorf("Init of a volume with a root: error %d", e)
			}
		})
	}
}

// Whatever inode 0 is, it is there.
func TestInitOfOtherRoots(t *testing.T) {
	for _, kind := range []uint8{kindFile, kindDir} {
		v, _ := mounted(t, roomy)
		v.Make(kind, 5)
		for range 3 {
			leaves(t, v, func() {
				if e := tree.Init(v); e != api.ErrThere {
					t.Errorf("error %d", e)
				}
			})
		}
		v.Make(kindDir, 5)
		if e := tree.Init(v); e != api.ErrThere {
			t.Errorf("with two inodes: error %d", e)
		}
		// Another inode than the first one does not matter.
		v.Unmake(0)
		if e := tree.Init(v); e != api.OK {
			t.Errorf("with inode 1 alone: error %d", e)
		}
		if n, a, e := v.Inode(0); n.Kind != kindDir || n.Links != 1 || a != 0 || e != api.OK {
			t.Errorf("root: got %v, label %d, error %d", n, a, e)
		}
	}
}

// All rows are those of other labels.
func TestInitWithoutARow(t *testing.T) {
	v, _ := mounted(t, roomy)
	for k := range 16 {
		v.Make(kindFile, api.Label(k+1))
	}
	v.Unmake(0)
	// This group needs the row that became free.
	v.Alloc(99)
	leaves(t, v, func() {
		if e := tree.Init(v); e != api.ErrFull {
			t.Fatalf("error %d", e)
		}
	})
	v.Free(0)
	if e := tree.Init(v); e != api.OK {
		t.Fatalf("error %d", e)
	}
	lists(t, v, 0, "/", nil, api.OK)
}

// P18.1: Walk

func TestWalk(t *testing.T) {
	v := rooted(t, roomy)
	d := creates(t, v, 0, "/d", kindDir, 0)
	e := creates(t, v, 0, "/d/e", kindDir, 0)
	f := creates(t, v, 0, "/d/e/f", kindFile, 0)
	g := creates(t, v, 0, "/g", kindFile, 0)
	leaves(t, v, func() {
		for _, a := range labels {
			walks(t, v, a, "/", 0, api.OK)
			walks(t, v, a, "/d", d, api.OK)
			walks(t, v, a, "/d/e", e, api.OK)
			walks(t, v, a, "/d/e/f", f, api.OK)
			walks(t, v, a, "/g", g, api.OK)
			walks(t, v, a, "/e", 0, api.ErrNone)
			walks(t, v, a, "/d/f", 0, api.ErrNone)
			walks(t, v, a, "/d/e/e", 0, api.ErrNone)
			walks(t, v, a, "/D", 0, api.ErrNone)
			walks(t, v, a, "/dd", 0, api.ErrNone)
			walks(t, v, a, "/g/d", 0, api.ErrDir)
			walks(t, v, a, "/d/e/f/g", 0, api.ErrDir)
			walks(t, v, a, "/d/e/f/g/h/i", 0, api.ErrDir)
			walks(t, v, a, "/x/y/z", 0, api.ErrNone)
			walks(t, v, a, "/x/g/d", 0, api.ErrNone)
			for _, s := range wrongPaths {
				walks(t, v, a, s, 0, api.ErrPath)
			}
		}
	})
}

// A path is no path though its first names lead through a file, or nowhere, or to where they may not.
func TestWalkOfWrongPathsFirst(t *testing.T) {
	v := rooted(t, roomy)
	makes(t, v, 0, "/f")
	creates(t, v, 0, "/s", kindDir, 2)
	makes(t, v, 2, "/s/f")
	for _, in := range []string{"/f/x", "/x/x", "/s/f", "/s/f/x"} {
		for _, end := range []string{"/", "//x", "/.", "/" + strings.Repeat("x", 14), strings.Repeat("/x", 15), "\x00"} {
			walks(t, v, 0, in+end, 0, api.ErrPath)
			stats(t, v, 0, in+end, api.Stat{}, api.ErrPath)
			lists(t, v, 0, in+end, nil, api.ErrPath)
			uncreated(t, v, 0, in+end, kindFile, 0, api.ErrPath)
			linked(t, v, 0, in+end, "/y", api.ErrPath)
			unlinks(t, v, 0, in+end, 0, false, api.ErrPath)
			rmdirs(t, v, 0, in+end, api.ErrPath)
			renames(t, v, 0, in+end, "/y", 0, false, api.ErrPath)
		}
	}
}

// The longest path, and the longest names.
func TestWalkOfLongPaths(t *testing.T) {
	v := rooted(t, roomy)
	path := ""
	for k := range 16 {
		name := strings.Repeat(string(rune('a'+k)), 13)
		path += "/" + name
		i := creates(t, v, 0, path, kindDir, 0)
		walks(t, v, 3, path, i, api.OK)
		walks(t, v, 3, path[:len(path)-1], 0, api.ErrNone)
		walks(t, v, 3, path+"x", 0, api.ErrPath)
	}
	walks(t, v, 3, path+"/a", 0, api.ErrPath)
	uncreated(t, v, 0, path+"/a", kindFile, 0, api.ErrPath)
	uncreated(t, v, 0, path, kindFile, 0, api.ErrThere)
	sound(t, v)
}

// Of each directory on the way, the label comes first, then the kind, then the name; a directory nearer to the root comes ahead of all of these.
func TestWalkPastLabels(t *testing.T) {
	v := rooted(t, roomy)
	s := creates(t, v, 0, "/s", kindDir, 2)
	u := creates(t, v, 2, "/s/u", kindDir, 6)
	f := creates(t, v, 6, "/s/u/f", kindFile, 6)
	o := creates(t, v, 0, "/o", kindFile, 4)
	for _, x := range []struct {
		path             string
		want             int
		none, one, other api.Errno // for the labels 0, 2 and 4
		all              api.Errno // for the label 6
	}{
		{"/s", s, 0, 0, 0, 0},
		{"/o", o, 0, 0, 0, 0},
		{"/x", 0, api.ErrNone, api.ErrNone, api.ErrNone, api.ErrNone},
		{"/s/u", u, api.ErrFlow, 0, api.ErrFlow, 0},
		{"/s/x", 0, api.ErrFlow, api.ErrNone, api.ErrFlow, api.ErrNone},
		{"/s/x/y", 0, api.ErrFlow, api.ErrNone, api.ErrFlow, api.ErrNone},
		{"/s/u/f", f, api.ErrFlow, api.ErrFlow, api.ErrFlow, 0},
		{"/s/u/x", 0, api.ErrFlow, api.ErrFlow, api.ErrFlow, api.ErrNone},
		{"/s/u/f/x", 0, api.ErrFlow, api.ErrFlow, api.ErrFlow, api.ErrDir},
		{"/o/x", 0, api.ErrFlow, api.ErrFlow, api.ErrDir, api.ErrDir},
		{"/o/x/y", 0, api.ErrFlow, api.ErrFlow, api.ErrDir, api.ErrDir},
		{"/x/y", 0, api.ErrNone, api.ErrNone, api.ErrNone, api.ErrNone},
	} {
		for a, e := range map[api.Label]api.Errno{0: x.none, 2: x.one, 4: x.other, 6: x.all, 1: x.none, 3: x.one, 5: x.other, 7: x.all} {
			want := x.want
			if e != api.OK {
				want = 0
			}
			walks(t, v, a, x.path, want, e)
		}
	}
}

// Without a root there is only the path to it.
func TestWalkWithoutARoot(t *testing.T) {
	v, _ := mounted(t, roomy)
	for _, v := range []*volume.Volume{v, nil} {
		for _, a := range labels {
			walks(t, v, a, "/", 0, api.OK)
			walks(t, v, a, "/x", 0, api.ErrNone)
			walks(t, v, a, "/x/y", 0, api.ErrNone)
			walks(t, v, a, "x", 0, api.ErrPath)
			stats(t, v, a, "/", api.Stat{}, api.ErrNone)
			lists(t, v, a, "/", nil, api.ErrNone)
			uncreated(t, v, a, "/x", kindFile, a, api.ErrNone)
		}
	}
}

// A root that is a file is no directory; that of another label can't be read by all.
func TestWalkFromOtherRoots(t *testing.T) {
	v, _ := mounted(t, roomy)
	v.Make(kindFile, 2)
	walks(t, v, 0, "/", 0, api.OK)
	walks(t, v, 0, "/x", 0, api.ErrFlow)
	walks(t, v, 2, "/x", 0, api.ErrDir)
	stats(t, v, 0, "/", api.Stat{}, api.ErrFlow)
	stats(t, v, 2, "/", api.Stat{Kind: kindFile, Label: 2}, api.OK)
	lists(t, v, 0, "/", nil, api.ErrFlow)
	lists(t, v, 2, "/", nil, api.ErrDir)
	uncreated(t, v, 0, "/x", kindFile, 0, api.ErrFlow)
	uncreated(t, v, 6, "/x", kindFile, 6, api.ErrDir)
	uncreated(t, v, 2, "/x", kindFile, 2, api.ErrDir)
	v.Unmake(0)
	v.Make(kindDir, 2)
	walks(t, v, 0, "/x", 0, api.ErrFlow)
	walks(t, v, 2, "/x", 0, api.ErrNone)
	lists(t, v, 0, "/", nil, api.ErrFlow)
	lists(t, v, 3, "/", nil, api.OK)
	uncreated(t, v, 0, "/x", kindFile, 0, api.ErrFlow)
	creates(t, v, 2, "/x", kindFile, 3)
}

// P18.2: Stat and List

func TestStat(t *testing.T) {
	v := rooted(t, roomy)
	stats(t, v, 0, "/", api.Stat{Kind: kindDir, Links: 1}, api.OK)
	makes(t, v, 0, "/d/", "/d/f")
	f, _ := tree.Walk(v, 0, "/d/f")
	writes(t, v, f, 100, []byte("moat"))
	linked(t, v, 0, "/d/f", "/g", api.OK)
	linked(t, v, 0, "/d/f", "/h", api.OK)
	creates(t, v, 0, "/s", kindFile, 6)
	creates(t, v, 0, "/t", kindDir, 4)
	leaves(t, v, func() {
		for _, a := range labels {
			stats(t, v, a, "/d", api.Stat{Kind: kindDir, Links: 1, Size: per}, api.OK)
			for _, s := range []string{"/d/f", "/g", "/h"} {
				stats(t, v, a, s, api.Stat{Kind: kindFile, Links: 3, Size: 104}, api.OK)
			}
			for s, x := range map[string]api.Stat{"/s": {Kind: kindFile, Label: 6, Links: 1}, "/t": {Kind: kindDir, Label: 4, Links: 1}} {
				if flows(x.Label, a) {
					stats(t, v, a, s, x, api.OK)
				} else {
					stats(t, v, a, s, api.Stat{}, api.ErrFlow)
				}
			}
			stats(t, v, a, "/x", api.Stat{}, api.ErrNone)
			stats(t, v, a, "/g/x", api.Stat{}, api.ErrDir)
			for _, s := range wrongPaths {
				stats(t, v, a, s, api.Stat{}, api.ErrPath)
			}
		}
	})
	// The sizes of a directory are those of its bytes, names that were removed ahead of others included.
	stats(t, v, 1, "/", api.Stat{Kind: kindDir, Links: 1, Size: 5 * per}, api.OK)
	unlinks(t, v, 0, "/g", f, false, api.OK)
	stats(t, v, 1, "/", api.Stat{Kind: kindDir, Links: 1, Size: 5 * per}, api.OK)
	stats(t, v, 0, "/h", api.Stat{Kind: kindFile, Links: 2, Size: 104}, api.OK)
}

// Each category is asked for, alone and with others.
func TestStatAndListWithEachCategory(t *testing.T) {
	for k := range 16 {
		v := rooted(t, roomy)
		b := api.Label(1<<k | 1<<(k*7%16))
		creates(t, v, 0, "/f", kindFile, b)
		creates(t, v, 0, "/d", kindDir, b)
		for n := range 512 {
			a := api.Label(n * 257 * 31)
			for _, a := range []api.Label{a, a | b, a &^ b, a&^b | 1<<k, b, ^b} {
				file, in, e := api.Stat{Kind: kindFile, Label: b, Links: 1}, api.Stat{Kind: kindDir, Label: b, Links: 1}, api.OK
				if !flows(b, a) {
					file, in, e = api.Stat{}, api.Stat{}, api.ErrFlow
				}
				stats(t, v, a, "/f", file, e)
				stats(t, v, a, "/d", in, e)
				lists(t, v, a, "/d", nil, e)
			}
		}
	}
}

func TestList(t *testing.T) {
	v := rooted(t, roomy)
	makes(t, v, 0, "/d/", "/f")
	creates(t, v, 0, "/s", kindDir, 2)
	creates(t, v, 0, "/t", kindFile, 2)
	for _, s := range []string{"b", "a", "c", "B", "ab", "aa", "\xff", "\x01", "a b", "é", "...", "10", "9"} {
		linked(t, v, 0, "/f", "/d/"+s, api.OK)
	}
	want := []string{"\x01", "...", "10", "9", "B", "a", "a b", "aa", "ab", "b", "c", "é", "\xff"}
	leaves(t, v, func() {
		lists(t, v, 0, "/d", want, api.OK)
		lists(t, v, 65535, "/d", want, api.OK)
		lists(t, v, 0, "/", []string{"d", "f", "s", "t"}, api.OK)
		lists(t, v, 0, "/s", nil, api.ErrFlow)
		lists(t, v, 4, "/s", nil, api.ErrFlow)
		lists(t, v, 2, "/s", nil, api.OK)
		lists(t, v, 0, "/f", nil, api.ErrDir)
		// The label comes ahead of the kind.
		lists(t, v, 0, "/t", nil, api.ErrFlow)
		lists(t, v, 2, "/t", nil, api.ErrDir)
		lists(t, v, 0, "/x", nil, api.ErrNone)
		lists(t, v, 0, "/f/x", nil, api.ErrDir)
		lists(t, v, 0, "/s/x", nil, api.ErrFlow)
		for _, s := range wrongPaths {
			lists(t, v, 0, s, nil, api.ErrPath)
		}
	})
	unlinks(t, v, 0, "/d/aa", 2, false, api.OK)
	linked(t, v, 0, "/f", "/d/z", api.OK)
	lists(t, v, 0, "/d", []string{"\x01", "...", "10", "9", "B", "a", "a b", "ab", "b", "c", "z", "é", "\xff"}, api.OK)
}

// Up to a full directory, whose names are added in any order.
func TestListOfManyNames(t *testing.T) {
	v := rooted(t, large)
	makes(t, v, 0, "/d/", "/f")
	var want []string
	for k := range 240 {
		name := strconv.Itoa(k * 89 % 240)
		linked(t, v, 0, "/f", "/d/"+name, api.OK)
		want = append(want, name)
		slices.Sort(want)
		if k%7 == 0 || k == 239 {
			lists(t, v, 5, "/d", want, api.OK)
		}
	}
	undone(t, v, func() { linked(t, v, 0, "/f", "/d/x", api.ErrFull) })
	undone(t, v, func() { uncreated(t, v, 0, "/d/x", kindFile, 0, api.ErrFull) })
	undone(t, v, func() { renames(t, v, 0, "/f", "/d/x", 0, false, api.ErrFull) })
	// A name that goes makes room for another one.
	renames(t, v, 0, "/d/7", "/d/x", 0, false, api.OK)
	want[slices.Index(want, "7")] = "x"
	slices.Sort(want)
	lists(t, v, 0, "/d", want, api.OK)
	stats(t, v, 0, "/d", api.Stat{Kind: kindDir, Links: 1, Size: 240 * per}, api.OK)
	sound(t, v)
}

// What List returns is new memory.
func TestListIsTheCallers(t *testing.T) {
	v := rooted(t, roomy)
	makes(t, v, 0, "/b", "/a", "/c")
	l, _ := tree.List(v, 0, "/")
	other, _ := tree.List(v, 0, "/")
	clear(l)
	_ = append(l[:0], "x", "y", "z")
	if !slices.Equal(other, []string{"a", "b", "c"}) {
		t.Errorf("another result: got %q", other)
	}
	lists(t, v, 0, "/", []string{"a", "b", "c"}, api.OK)
	unlinks(t, v, 0, "/a", 2, true, api.OK)
	if !slices.Equal(other, []string{"a", "b", "c"}) {
		t.Errorf("an earlier result: got %q", other)
	}
}

// The label of what is looked at is asked for at its end, also if it is a directory that a name was looked up in ahead of it.
func TestStatAndListOfLabels(t *testing.T) {
	v := rooted(t, roomy)
	for k, a := range []api.Label{1, 3, 7, 15} {
		path := strings.Repeat("/d", k+1)
		creates(t, v, []api.Label{0, 1, 3, 7}[k], path, kindDir, a)
		for _, by := range []api.Label{0, 1, 3, 7, 15, 2, 65534, 65535} {
			want, we := api.Stat{Kind: kindDir, Label: a, Links: 1}, api.OK
			if by&a != a {
				want, we = api.Stat{}, api.ErrFlow
			}
			stats(t, v, by, path, want, we)
			lists(t, v, by, path, nil, we)
		}
	}
}

// What is on the disk alone can't be read without power.
func TestWithoutPower(t *testing.T) {
	v, d := rootedOn(t, roomy)
	makes(t, v, 0, "/d/", "/d/f", "/f")
	creates(t, v, 0, "/s", kindDir, 2)
	syncs(t, v)
	was := v.Meta()
	off(t, d)
	for _, s := range []string{"/d", "/d/f", "/f", "/x", "/f/x", "/d/f/x", "/s/x", "/s"} {
		walks(t, v, 0, s, 0, api.ErrDead)
		stats(t, v, 0, s, api.Stat{}, api.ErrDead)
		lists(t, v, 0, s, nil, api.ErrDead)
		uncreated(t, v, 0, s, kindDir, 0, api.ErrDead)
		linked(t, v, 0, s, "/y", api.ErrDead)
		unlinks(t, v, 0, s, 0, false, api.ErrDead)
		rmdirs(t, v, 0, s, api.ErrDead)
		renames(t, v, 0, s, "/y", 0, false, api.ErrDead)
	}
	// What needs no block is answered as ever.
	walks(t, v, 0, "/", 0, api.OK)
	stats(t, v, 0, "/", api.Stat{Kind: kindDir, Links: 1, Size: 3 * per}, api.OK)
	lists(t, v, 0, "/", nil, api.ErrDead)
	uncreated(t, v, 0, "/x", 9, 0, api.ErrArg)
	uncreated(t, v, 2, "/x", kindFile, 2, api.ErrFlow)
	unlinks(t, v, 2, "/f", 0, false, api.ErrFlow)
	uncreated(t, v, 0, "/", kindFile, 0, api.ErrPath)
	uncreated(t, v, 0, "/x", kindFile, 0, api.ErrDead)
	releases(t, v, 1, api.ErrBusy)
	releases(t, v, 9, api.ErrNone)
	if !slices.Equal(v.Meta().Inodes, was.Inodes) || !bytes.Equal(v.Meta().Used, was.Used) || v.Dirty() != 0 {
		t.Error("something was changed")
	}
	d.Crash(0)
	lists(t, v, 0, "/", []string{"d", "f", "s"}, api.OK)
	sound(t, v)
}

// A directory whose bytes are none, and entries of inodes that are free or that there are not.
func TestDamagedDirectories(t *testing.T) {
	for _, a := range []api.Label{0, 2} {
		v := rooted(t, roomy)
		creates(t, v, 0, "/s", kindDir, a)
		makes(t, v, a, "/s/d/", "/s/e/", "/s/f")
		d, _ := tree.Walk(v, a, "/s/d")
		e, _ := tree.Walk(v, a, "/s/e")
		writes(t, v, d, 0, []byte{1, 2, 3})
		dir.Add(v, e, api.Entry{Name: "a", Inode: 20})
		dir.Add(v, e, api.Entry{Name: "b", Inode: 63})
		leaves(t, v, func() {
			stats(t, v, a, "/s/d", api.Stat{Kind: kindDir, Label: a, Links: 1, Size: 3}, api.OK)
			walks(t, v, a, "/s/d/x", 0, api.ErrEntry)
			lists(t, v, a, "/s/d", nil, api.ErrEntry)
			uncreated(t, v, a, "/s/d/x", kindFile, a, api.ErrEntry)
			linked(t, v, a, "/s/f", "/s/d/x", api.ErrEntry)
			linked(t, v, a, "/s/d/x", "/s/x", api.ErrEntry)
			unlinks(t, v, a, "/s/d/x", 0, false, api.ErrEntry)
			rmdirs(t, v, a, "/s/d", api.ErrEntry)
			rmdirs(t, v, a, "/s/d/x", api.ErrEntry)
			renames(t, v, a, "/s/f", "/s/d/x", 0, false, api.ErrEntry)
			renames(t, v, a, "/s/e", "/s/d", 0, false, api.ErrEntry)
			lists(t, v, a, "/s/e", []string{"a", "b"}, api.OK)
			rmdirs(t, v, a, "/s/e", api.ErrBusy)
			for _, x := range []struct {
				path string
				i    int
				want api.Errno
			}{{"/s/e/a", 20, api.ErrNone}, {"/s/e/b", 63, api.ErrArg}} {
				walks(t, v, a, x.path, x.i, api.OK)
				walks(t, v, a, x.path+"/x", 0, x.want)
				stats(t, v, a, x.path, api.Stat{}, x.want)
				lists(t, v, a, x.path, nil, x.want)
				uncreated(t, v, a, x.path, kindFile, a, api.ErrThere)
				uncreated(t, v, a, x.path+"/x", kindFile, a, x.want)
				linked(t, v, a, "/s/f", x.path, api.ErrThere)
				linked(t, v, a, x.path, "/s/y", x.want)
				unlinks(t, v, a, x.path, 0, false, x.want)
				rmdirs(t, v, a, x.path, x.want)
				renames(t, v, a, x.path, "/s/y", 0, false, x.want)
				renames(t, v, a, "/s/f", x.path, 0, false, x.want)
			}
		})
	}
}

// No volume at all.
func TestNoVolume(t *testing.T) {
	for v, none := range map[*volume.Volume]api.Errno{nil: api.ErrNone, {}: api.ErrArg} {
		if e := tree.Init(v); e != map[bool]api.Errno{true: api.ErrNone, false: api.ErrFull}[v == nil] {
			t.Errorf("Init: error %d", e)
		}
		for _, a := range labels {
			walks(t, v, a, "/", 0, api.OK)
			walks(t, v, a, "/x", 0, none)
			walks(t, v, a, "x", 0, api.ErrPath)
			stats(t, v, a, "/", api.Stat{}, none)
			lists(t, v, a, "/", nil, none)
			uncreated(t, v, a, "/x", kindFile, a, none)
			uncreated(t, v, a, "/x", 0, a, api.ErrArg)
			linked(t, v, a, "/x", "/y", none)
			linked(t, v, a, "/", "/y", api.ErrPath)
			unlinks(t, v, a, "/x", 0, false, none)
			rmdirs(t, v, a, "/x", none)
			renames(t, v, a, "/x", "/y", 0, false, none)
		}
		for _, i := range append([]int{0, 1, 63}, extremes...) {
			releases(t, v, i, none)
		}
		reaps(t, v, 0, api.OK)
	}
}

// keeps makes sure of the bytes of an inode.
func keeps(t *testing.T, v *volume.Volume, i int, want string) {
	t.Helper()
	if b, e := file.Read(v, i, 0, 4000); string(b) != want || e != api.OK {
		t.Fatalf("bytes of %d: got %q, error %d; want %q", i, b, e, want)
	}
}
