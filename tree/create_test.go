package tree_test

import (
	"math"
	"slices"
	"strconv"
	"strings"
	"testing"

	"moat/api"
	"moat/dir"
	"moat/file"
	"moat/tree"
	"moat/volume"
)

// P18.3: the location, and the object there

// located calls Create, Link, Unlink, Rmdir and Rename for one path, and makes sure that the error of its location is the first one.
func located(t *testing.T, v *volume.Volume, a api.Label, path string, want api.Errno) {
	t.Helper()
	for _, kind := range []uint8{kindFile, kindDir} {
		// The label comes behind the location: that of a caller does not flow to all of these.
		for _, b := range []api.Label{a, 0, ^a, 65535} {
			uncreated(t, v, a, path, kind, b, want)
		}
	}
	for _, now := range []string{"/new", "/", "", "/none/x", path} {
		linked(t, v, a, path, now, want)
		renames(t, v, a, path, now, 0, false, want)
	}
	unlinks(t, v, a, path, 0, false, want)
	rmdirs(t, v, a, path, want)
}

// The errors of a location, in their order.
func TestLocation(t *testing.T) {
	v := rooted(t, roomy)
	makes(t, v, 0, "/d/", "/f", "/g")
	creates(t, v, 0, "/o", kindFile, 2)
	creates(t, v, 0, "/s", kindDir, 2)
	makes(t, v, 2, "/s/d/", "/s/f")
	creates(t, v, 2, "/s/t", kindDir, 6)
	makes(t, v, 6, "/s/t/f")
	for _, x := range []struct {
		a    api.Label
		path string
		want api.Errno
	}{
		{0, "/", api.ErrPath},
		{2, "/", api.ErrPath},
		// The error of Walk.
		{0, "/x/y", api.ErrNone},
		{2, "/x/y", api.ErrNone},
		{0, "/f/x/y", api.ErrDir},
		{0, "/s/d/x", api.ErrFlow},
		{0, "/s/x/y", api.ErrFlow},
		{4, "/s/f/y", api.ErrFlow},
		{2, "/s/x/y", api.ErrNone},
		{2, "/s/f/x/y", api.ErrDir},
		{2, "/o/x/y", api.ErrDir},
		{6, "/d/x/y", api.ErrNone},
		// The label of the directory does not flow to the caller's.
		{0, "/s/x", api.ErrFlow},
		{0, "/s/f", api.ErrFlow},
		{4, "/s/d", api.ErrFlow},
		{1, "/s/x", api.ErrFlow},
		{2, "/s/t/f", api.ErrFlow},
		{2, "/s/t/x", api.ErrFlow},
		// That comes ahead of the kind.
		{0, "/o/x", api.ErrFlow},
		{5, "/o/x", api.ErrFlow},
		{0, "/s/f/x", api.ErrFlow},
		// It is a file, also if its label is not the caller's.
		{0, "/f/x", api.ErrDir},
		{2, "/f/x", api.ErrDir},
		{65535, "/f/x", api.ErrDir},
		{2, "/o/x", api.ErrDir},
		{3, "/o/x", api.ErrDir},
		{6, "/s/f/x", api.ErrDir},
		// The caller's label has more categories.
		{2, "/x", api.ErrFlow},
		{2, "/f", api.ErrFlow},
		{2, "/o", api.ErrFlow},
		{2, "/s", api.ErrFlow},
		{65535, "/d", api.ErrFlow},
		{1, "/d/x", api.ErrFlow},
		{6, "/s/x", api.ErrFlow},
		{6, "/s/t", api.ErrFlow},
		{7, "/s/t/f", api.ErrFlow},
	} {
		leaves(t, v, func() { located(t, v, x.a, x.path, x.want) })
		// The location of a new name comes behind the old one and its object.
		if x.a == 0 {
			leaves(t, v, func() {
				linked(t, v, 0, "/f", x.path, x.want)
				renames(t, v, 0, "/f", x.path, 0, false, x.want)
				renames(t, v, 0, "/d", x.path, 0, false, x.want)
				linked(t, v, 0, "/none", x.path, api.ErrNone)
				renames(t, v, 0, "/none", x.path, 0, false, api.ErrNone)
				linked(t, v, 0, "/s", x.path, api.ErrFlow)
				renames(t, v, 0, "/s", x.path, 0, false, api.ErrFlow)
				linked(t, v, 0, "/d", x.path, api.ErrDir)
			})
		}
	}
	for _, path := range wrongPaths {
		for _, a := range labels {
			leaves(t, v, func() { located(t, v, a, path, api.ErrPath) })
		}
		leaves(t, v, func() {
			linked(t, v, 0, "/f", path, api.ErrPath)
			renames(t, v, 0, "/f", path, 0, false, api.ErrPath)
			renames(t, v, 0, "/d", path, 0, false, api.ErrPath)
		})
	}
}

// The errors of an object: there is none, or its label is another one, whether it flows to the caller's or not.
func TestObject(t *testing.T) {
	v := rooted(t, roomy)
	creates(t, v, 0, "/s", kindDir, 2)
	for _, b := range []api.Label{3, 6, 65535} {
		creates(t, v, 2, "/s/f"+strconv.Itoa(int(b)), kindFile, b)
		creates(t, v, 2, "/s/d"+strconv.Itoa(int(b)), kindDir, b)
	}
	makes(t, v, 2, "/s/f")
	s, _ := tree.Walk(v, 2, "/s")
	// Such an object may be there only because somebody else has written the directory.
	low, _ := v.Make(kindFile, 0)
	links(t, v, low, 1)
	dir.Add(v, s, api.Entry{Name: "low", Inode: low})
	refused := func(path string, want api.Errno) {
		t.Helper()
		leaves(t, v, func() {
			for _, now := range []string{"/s/new", "/s/f", "/", "", "/x", "/s/x/y", path, path + "/x"} {
				linked(t, v, 2, path, now, want)
				renames(t, v, 2, path, now, 0, false, want)
			}
			unlinks(t, v, 2, path, 0, false, want)
			rmdirs(t, v, 2, path, want)
		})
	}
	for _, b := range []string{"3", "6", "65535"} {
		refused("/s/f"+b, api.ErrFlow)
		refused("/s/d"+b, api.ErrFlow)
	}
	refused("/s/low", api.ErrFlow)
	refused("/s/x", api.ErrNone)
	refused("/s/ff", api.ErrNone)
	for _, b := range []string{"f3", "d3", "f6", "d6", "low"} {
		leaves(t, v, func() {
			// That such a name is there is another error for a new name.
			linked(t, v, 2, "/s/f", "/s/"+b, api.ErrThere)
			renames(t, v, 2, "/s/f", "/s/"+b, 0, false, api.ErrFlow)
			uncreated(t, v, 2, "/s/"+b, kindFile, 2, api.ErrThere)
		})
	}
}

// P18.3: Create

func TestCreate(t *testing.T) {
	v := rooted(t, roomy)
	for k, x := range []struct {
		a    api.Label
		path string
		kind uint8
		b    api.Label
	}{
		{0, "/f", kindFile, 0}, {0, "/d", kindDir, 0}, {0, "/d/f", kindFile, 0}, {0, "/d/s", kindDir, 2}, {0, "/d/o", kindFile, 65535},
		{2, "/d/s/f", kindFile, 2}, {2, "/d/s/t", kindDir, 6}, {2, "/d/s/o", kindFile, 3}, {6, "/d/s/t/f", kindFile, 6}, {6, "/d/s/t/d", kindDir, 65535}, {65535, "/d/s/t/d/x", kindDir, 65535},
	} {
		changes(t, v, func() {
			if i := creates(t, v, x.a, x.path, x.kind, x.b); i != k+1 {
				t.Fatalf("Create of %q: got %d", x.path, i)
			}
		})
		n, a, e := v.Inode(k + 1)
		if n.Kind != x.kind || a != x.b || n.Links != 1 || n.Size != 0 || n.Direct != [8]int{} || n.Ind != 0 || n.Dind != 0 || e != api.OK {
			t.Fatalf("%q: got %v, label %d, error %d", x.path, n, a, e)
		}
		walks(t, v, 65535, x.path, k+1, api.OK)
		stats(t, v, x.b, x.path, api.Stat{Kind: x.kind, Label: x.b, Links: 1}, api.OK)
		leaves(t, v, func() {
			for _, kind := range []uint8{kindFile, kindDir} {
				uncreated(t, v, x.a, x.path, kind, x.b, api.ErrThere)
			}
		})
		sound(t, v)
	}
	// Numbers that became free are used again, the first one first.
	unlinks(t, v, 0, "/f", 1, true, api.OK)
	releases(t, v, 1, api.OK)
	unlinks(t, v, 0, "/d/f", 3, true, api.OK)
	if i := creates(t, v, 0, "/g", kindDir, 4); i != 1 {
		t.Errorf("got %d", i)
	}
	releases(t, v, 3, api.OK)
	if i := creates(t, v, 0, "/d/g", kindFile, 0); i != 3 {
		t.Errorf("got %d", i)
	}
	sound(t, v)
}

// A kind that is none comes ahead of all else.
func TestCreateOfNoKind(t *testing.T) {
	v := rooted(t, roomy)
	makes(t, v, 0, "/f")
	creates(t, v, 0, "/s", kindDir, 2)
	leaves(t, v, func() {
		for kind := range 256 {
			if kind == 1 || kind == 2 {
				continue
			}
			for _, path := range []string{"/n", "/f", "/", "", "x", "/x/y", "/f/x", "/s/x"} {
				for _, a := range []api.Label{0, 2} {
					for _, b := range []api.Label{0, 2} {
						uncreated(t, v, a, path, uint8(kind), b, api.ErrArg)
					}
				}
			}
		}
	})
}

// The caller's label flows to that of what he makes; this comes behind the location, and ahead of a name that is there.
func TestCreateWithLabels(t *testing.T) {
	v := rooted(t, large)
	for _, a := range []api.Label{0, 1, 2, 6, 40960, 65535} {
		top := "/t" + strconv.Itoa(int(a))
		creates(t, v, 0, top, kindDir, a)
		makes(t, v, a, top+"/f")
		for k := range 200 {
			b := api.Label(k * 331)
			if k < 32 {
				b = api.Label(k)
			}
			for _, b := range []api.Label{b, a | b, a &^ b} {
				if flows(a, b) {
					begins(t, v)
					i := creates(t, v, a, top+"/n", kindFile, b)
					stats(t, v, a|b, top+"/n", api.Stat{Kind: kindFile, Label: b, Links: 1}, api.OK)
					if _, c, _ := v.Inode(i); c != b {
						t.Fatalf("label: got %d, want %d", c, b)
					}
					uncreated(t, v, a, top+"/f", kindFile, b, api.ErrThere)
					v.Abort()
					continue
				}
				uncreated(t, v, a, top+"/n", kindDir, b, api.ErrFlow)
				uncreated(t, v, a, top+"/f", kindFile, b, api.ErrFlow)
				uncreated(t, v, a, top+"/f/x", kindFile, b, api.ErrDir)
				uncreated(t, v, a, top+"/x/x", kindFile, b, api.ErrNone)
				uncreated(t, v, a, "/", kindFile, b, api.ErrPath)
			}
		}
	}
}

func TestCreateOfOddNames(t *testing.T) {
	v := rooted(t, large)
	var want []string
	for _, s := range []string{"...", ".a", "a.", " ", "\xff", "\x01", "\\", "\n", "é", "\xff\xfe\xfd", strings.Repeat("\xff", 13), strings.Repeat(".", 13), "ab", "AB", "a"} {
		makes(t, v, 0, "/"+s)
		uncreated(t, v, 0, "/"+s, kindFile, 0, api.ErrThere)
		want = append(want, s)
	}
	slices.Sort(want)
	lists(t, v, 0, "/", want, api.OK)
	sound(t, v)
}

// The last error that Begin is not called for: no inode is free.
func TestCreateWithoutAnInode(t *testing.T) {
	for _, g := range []api.Geo{full(8), {Journal: 100, Inodes: 2, Groups: 1, PerGroup: 2}, large} {
		v := rooted(t, g)
		for k := 1; k < g.Inodes; k++ {
			creates(t, v, 0, "/n"+strconv.Itoa(k), uint8(1+k%2), 0)
		}
		leaves(t, v, func() {
			uncreated(t, v, 0, "/x", kindFile, 0, api.ErrFull)
			uncreated(t, v, 0, "/x", kindDir, 9, api.ErrFull)
			uncreated(t, v, 0, "/n1", kindFile, 0, api.ErrThere)
			uncreated(t, v, 2, "/x", kindFile, 2, api.ErrFlow)
			uncreated(t, v, 0, "/x", 0, 0, api.ErrArg)
			uncreated(t, v, 0, "/x/y", kindFile, 0, api.ErrNone)
		})
		if g.Inodes == 2 {
			continue
		}
		i, _ := tree.Walk(v, 0, "/n2")
		unlinks(t, v, 0, "/n2", i, true, api.OK)
		// It is not free yet.
		leaves(t, v, func() { uncreated(t, v, 0, "/x", kindFile, 0, api.ErrFull) })
		releases(t, v, i, api.OK)
		if k := creates(t, v, 0, "/x", kindFile, 0); k != i {
			t.Errorf("got %d", k)
		}
		leaves(t, v, func() { uncreated(t, v, 0, "/y", kindFile, 0, api.ErrFull) })
		sound(t, v)
	}
}

// No block is left for the name, at each place where one is needed: the new inode is undone, and its row.
func TestCreateWithoutABlock(t *testing.T) {
	for _, x := range []struct{ names, blocks, need int }{{0, 0, 1}, {4, 1, 1}, {28, 7, 1}, {32, 8, 2}, {36, 10, 1}, {160, 41, 3}} {
		for room := range x.need {
			v := rooted(t, full(1+x.blocks+room))
			f, _ := v.Make(kindFile, 0)
			links(t, v, f, x.names)
			writes(t, v, f, 0, []byte{1})
			for k := range x.names {
				dir.Add(v, 0, api.Entry{Name: "n" + strconv.Itoa(k), Inode: f})
			}
			if n := inUse(v); n != 1+x.blocks {
				t.Fatalf("%d blocks in use", n)
			}
			for _, b := range []api.Label{0, 2} {
				for _, kind := range []uint8{kindFile, kindDir} {
					undone(t, v, func() { uncreated(t, v, 0, "/x", kind, b, api.ErrFull) })
				}
			}
			if x.names > 0 {
				undone(t, v, func() { linked(t, v, 0, "/n0", "/x", api.ErrFull) })
				// A name that is removed first makes room for the new one.
				changes(t, v, func() { renames(t, v, 0, "/n0", "/x", 0, false, api.OK) })
			}
			file.Cut(v, f, 0)
			if room+1 == x.need {
				creates(t, v, 0, "/y", kindFile, 0)
				if x.names == 0 {
					links(t, v, f, 1)
					dir.Add(v, 0, api.Entry{Name: "f", Inode: f})
				}
				sound(t, v)
			}
		}
	}
}

// A group of another label has blocks, but not for a directory of this one.
func TestCreateWithoutAGroup(t *testing.T) {
	v := rooted(t, api.Geo{Journal: 110, Inodes: 16, Groups: 2, PerGroup: 4})
	creates(t, v, 0, "/s", kindDir, 2)
	creates(t, v, 0, "/u", kindDir, 4)
	makes(t, v, 2, "/s/f")
	undone(t, v, func() { uncreated(t, v, 4, "/u/f", kindFile, 4, api.ErrFull) })
	makes(t, v, 2, "/s/g")
	makes(t, v, 0, "/g")
	unlinks(t, v, 2, "/s/f", 3, true, api.OK)
	unlinks(t, v, 2, "/s/g", 4, true, api.OK)
	makes(t, v, 4, "/u/f")
	undone(t, v, func() { uncreated(t, v, 2, "/s/f", kindFile, 2, api.ErrFull) })
}

// Each label needs a row: there are sixteen.
func TestCreateWithoutARow(t *testing.T) {
	v := rooted(t, large)
	for k := range 15 {
		creates(t, v, 0, "/n"+strconv.Itoa(k), kindFile, api.Label(k+1))
	}
	undone(t, v, func() {
		uncreated(t, v, 0, "/x", kindFile, 16, api.ErrFull)
		uncreated(t, v, 0, "/x", kindDir, 65535, api.ErrFull)
	})
	// The error of the name comes first, as ever.
	leaves(t, v, func() { uncreated(t, v, 0, "/n3", kindFile, 16, api.ErrThere) })
	creates(t, v, 0, "/x", kindFile, 15)
	creates(t, v, 0, "/y", kindDir, 0)
	sound(t, v)
	lists(t, v, 0, "/", []string{"n0", "n1", "n10", "n11", "n12", "n13", "n14", "n2", "n3", "n4", "n5", "n6", "n7", "n8", "n9", "x", "y"}, api.OK)
}

// Create asks for what it needs only: no byte of what it makes, and no block of another directory.
func TestCreateWritesWhatChanges(t *testing.T) {
	v := rooted(t, roomy)
	makes(t, v, 0, "/d/", "/e/", "/e/f", "/d/f")
	syncs(t, v)
	creates(t, v, 0, "/d/g", kindDir, 2)
	if v.Dirty() != 1 || inUse(v) != 3 {
		t.Errorf("Dirty %d, %d blocks in use", v.Dirty(), inUse(v))
	}
	l, _ := file.Blocks(v, 1)
	b, _ := v.Read(l[0])
	if b[per] != 1 || b[per+2] != 5 || b[per+3] != 'g' {
		t.Errorf("block: got %v", b)
	}
}

// Begin syncs when there might not be room in the journal, and its error is that of the call.
func TestBeginFails(t *testing.T) {
	calls := map[string]func(v *volume.Volume) api.Errno{
		"Create": func(v *volume.Volume) api.Errno { _, e := tree.Create(v, 0, "/x", kindFile, 0); return e },
		"Link":   func(v *volume.Volume) api.Errno { return tree.Link(v, 0, "/f", "/x") },
		"Unlink": func(v *volume.Volume) api.Errno { _, _, e := tree.Unlink(v, 0, "/f"); return e },
		"Rmdir":  func(v *volume.Volume) api.Errno { return tree.Rmdir(v, 0, "/d") },
		"Rename": func(v *volume.Volume) api.Errno { _, _, e := tree.Rename(v, 0, "/f", "/x"); return e },
		"Rename to a file": func(v *volume.Volume) api.Errno {
			_, _, e := tree.Rename(v, 0, "/f", "/g")
			return e
		},
		"Rename to a directory": func(v *volume.Volume) api.Errno {
			_, _, e := tree.Rename(v, 0, "/d", "/e")
			return e
		},
		"Release": func(v *volume.Volume) api.Errno { return tree.Release(v, 1) },
		"Reap":    func(v *volume.Volume) api.Errno { _, e := tree.Reap(v); return e },
	}
	for name, call := range calls {
		// Its journal is so small that each Begin syncs if anything is to be written.
		v, d := rootedOn(t, tight)
		makes(t, v, 0, "/o")
		unlinks(t, v, 0, "/o", 1, true, api.OK)
		makes(t, v, 0, "/f", "/g", "/d/", "/e/")
		off(t, d)
		was := pictured(v)
		lists(t, v, 0, "/", []string{"d", "e", "f", "g"}, api.OK)
		// What is refused, or nothing is to be done for, comes ahead of Begin.
		uncreated(t, v, 0, "/f", kindFile, 0, api.ErrThere)
		linked(t, v, 0, "/d", "/x", api.ErrDir)
		unlinks(t, v, 0, "/d", 0, false, api.ErrDir)
		rmdirs(t, v, 0, "/f", api.ErrDir)
		renames(t, v, 0, "/f", "/f", 0, false, api.OK)
		renames(t, v, 0, "/f", "/d", 0, false, api.ErrDir)
		releases(t, v, 2, api.ErrBusy)
		if e := call(v); e != api.ErrDead {
			t.Errorf("%s: error %d", name, e)
		}
		samePicture(t, pictured(v), was)
	}
}

// Each call begins for itself, so that the journal always has room for what is to be written.
func TestManyCallsWithoutSync(t *testing.T) {
	v, d := rootedOn(t, tight)
	makes(t, v, 0, "/d/", "/f")
	for k := range 200 {
		linked(t, v, 0, "/f", "/d/n"+strconv.Itoa(k), api.OK)
		// The blocks of this change alone.
		if v.Dirty() > 4 {
			t.Fatalf("Dirty is %d", v.Dirty())
		}
	}
	done := d.Done()
	syncs(t, v)
	if d.Done() == done {
		t.Error("nothing was to be written")
	}
	lists(t, mounts(t, d), 0, "/", []string{"d", "f"}, api.OK)
	sound(t, mounts(t, d))
}

// Numbers that are too great for a name's inode.
func TestExtremeNumbers(t *testing.T) {
	v := rooted(t, large)
	makes(t, v, 0, "/f")
	leaves(t, v, func() {
		for _, i := range extremes {
			releases(t, v, i, api.ErrArg)
		}
		releases(t, v, math.MaxInt, api.ErrArg)
	})
	for k := range 62 {
		if i := creates(t, v, 0, "/n"+strconv.Itoa(k), kindFile, 0); i != k+2 {
			t.Fatalf("got %d", i)
		}
	}
	walks(t, v, 0, "/n61", 63, api.OK)
	unlinks(t, v, 0, "/n61", 63, true, api.OK)
	releases(t, v, 63, api.OK)
	sound(t, v)
}
