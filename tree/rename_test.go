package tree_test

import (
	"strings"
	"testing"

	"moat/api"
	"moat/dir"
	"moat/file"
	"moat/tree"
)

// P18.5: Rename to a name that is free

func TestRename(t *testing.T) {
	v := rooted(t, roomy)
	makes(t, v, 0, "/f", "/d/", "/d/e/", "/d/e/g", "/h/")
	f, _ := tree.Walk(v, 0, "/f")
	d, _ := tree.Walk(v, 0, "/d")
	g, _ := tree.Walk(v, 0, "/d/e/g")
	writes(t, v, f, 0, []byte("moat"))
	was := inodes(v)
	for _, x := range []struct {
		old, now string
		i        int
	}{
		{"/f", "/ff", f}, {"/ff", "/d/f", f}, {"/d/f", "/d/e/f", f}, {"/d/e/f", "/f", f},
		{"/d", "/b", d}, {"/b", "/bb", d}, {"/bb", "/h/d", d}, {"/h/d/e/g", "/h/g", g}, {"/h/d", "/h/dd", d}, {"/h/dd", "/d", d},
	} {
		changes(t, v, func() { renames(t, v, 0, x.old, x.now, 0, false, api.OK) })
		leaves(t, v, func() {
			walks(t, v, 5, x.old, 0, api.ErrNone)
			walks(t, v, 5, x.now, x.i, api.OK)
			renames(t, v, 0, x.old, x.now, 0, false, api.ErrNone)
		})
		sound(t, v)
	}
	keeps(t, v, f, "moat")
	stats(t, v, 0, "/f", api.Stat{Kind: kindFile, Links: 1, Size: 4}, api.OK)
	lists(t, v, 0, "/", []string{"d", "f", "h"}, api.OK)
	lists(t, v, 0, "/d", []string{"e"}, api.OK)
	lists(t, v, 0, "/h", []string{"g"}, api.OK)
	lists(t, v, 0, "/d/e", nil, api.OK)
	if inodes(v) != was {
		t.Errorf("%d inodes", inodes(v))
	}
}

// Only one of the names of a file changes, and none of its links.
func TestRenameOfOneOfTheNames(t *testing.T) {
	v := rooted(t, roomy)
	makes(t, v, 0, "/f", "/d/")
	linked(t, v, 0, "/f", "/g", api.OK)
	linked(t, v, 0, "/f", "/d/h", api.OK)
	for _, x := range [][2]string{{"/f", "/a"}, {"/d/h", "/h"}, {"/g", "/d/g"}} {
		changes(t, v, func() { renames(t, v, 0, x[0], x[1], 0, false, api.OK) })
		sound(t, v)
	}
	for _, s := range []string{"/a", "/h", "/d/g"} {
		stats(t, v, 0, s, api.Stat{Kind: kindFile, Links: 3}, api.OK)
	}
	lists(t, v, 0, "/", []string{"a", "d", "h"}, api.OK)
}

// The old name goes ahead of the new one, so that this takes its place.
func TestRenameInItsPlace(t *testing.T) {
	v := rooted(t, full(2))
	makes(t, v, 0, "/a", "/b", "/c")
	for _, x := range []struct {
		old, now string
		want     []string
	}{
		{"/a", "/x", []string{"x", "b", "c"}}, {"/c", "/y", []string{"x", "b", "y"}}, {"/b", "/z", []string{"x", "z", "y"}},
	} {
		renames(t, v, 0, x.old, x.now, 0, false, api.OK)
		l, _ := dir.List(v, 0)
		for k, name := range x.want {
			if len(l) != 3 || l[k].Name != name || l[k].Inode != k+1 {
				t.Fatalf("entries: got %v, want %q", l, x.want)
			}
		}
	}
}

// Each error of Rename, in their order, ahead of the one that has the name already.
func TestRenameOfWrongThings(t *testing.T) {
	v := rooted(t, roomy)
	makes(t, v, 0, "/d/", "/d/e/", "/d/e/f", "/dd/", "/f", "/g")
	creates(t, v, 0, "/o", kindFile, 2)
	creates(t, v, 0, "/p", kindFile, 2)
	creates(t, v, 0, "/s", kindDir, 2)
	creates(t, v, 0, "/t", kindDir, 4)
	makes(t, v, 2, "/s/f", "/s/d/")
	creates(t, v, 2, "/s/o", kindFile, 6)
	creates(t, v, 2, "/s/u", kindDir, 6)
	for _, x := range []struct {
		a        api.Label
		old, now string
		want     api.Errno
	}{
		// The location of old, and the object there.
		{0, "/", "/x", api.ErrPath}, {0, "", "/x", api.ErrPath}, {0, "/x/y", "", api.ErrNone}, {0, "/f/y", "", api.ErrDir}, {0, "/s/f", "", api.ErrFlow}, {2, "/f", "", api.ErrFlow},
		{0, "/x", "", api.ErrNone}, {0, "/x", "/x", api.ErrNone}, {0, "/x", "/x/y", api.ErrNone}, {0, "/o", "", api.ErrFlow}, {0, "/o", "/o", api.ErrFlow}, {0, "/s", "/s/x", api.ErrFlow}, {0, "/o", "/o/x", api.ErrFlow}, {2, "/s/u", "/s/u/x", api.ErrFlow},
		// A directory does not go under itself, whatever there is at the new place.
		{0, "/d", "/d/x", api.ErrArg}, {0, "/d", "/d/e", api.ErrArg}, {0, "/d", "/d/e/f", api.ErrArg}, {0, "/d", "/d/e/x", api.ErrArg}, {0, "/d", "/d/x/y/z", api.ErrArg}, {0, "/d", "/d/e/f/x", api.ErrArg}, {0, "/d/e", "/d/e/x", api.ErrArg}, {2, "/s/d", "/s/d/x", api.ErrArg},
		{0, "/d", "/d" + strings.Repeat("/x", 15), api.ErrArg},
		// What is no path is not under another one.
		{0, "/d", "/d/", api.ErrPath}, {0, "/d", "/d//x", api.ErrPath}, {0, "/d", "/d/..", api.ErrPath}, {0, "/d", "/d" + strings.Repeat("/x", 16), api.ErrPath}, {0, "/d", "/d/xxxxxxxxxxxxxx", api.ErrPath},
		// The location of now. A file may have a path that is under it.
		{0, "/f", "", api.ErrPath}, {0, "/f", "/", api.ErrPath}, {0, "/d", "/", api.ErrPath}, {0, "/f", "/x/y", api.ErrNone}, {0, "/f", "/g/y", api.ErrDir}, {0, "/f", "/f/y", api.ErrDir}, {0, "/f", "/f/y/z", api.ErrDir},
		{0, "/f", "/s/x", api.ErrFlow}, {0, "/f", "/s/f", api.ErrFlow}, {0, "/d", "/s/x", api.ErrFlow}, {0, "/f", "/o/x", api.ErrFlow}, {2, "/s/f", "/x", api.ErrFlow}, {2, "/s/d", "/d/x", api.ErrFlow}, {2, "/s/f", "/f", api.ErrFlow}, {2, "/s/f", "/s/u/x", api.ErrFlow}, {2, "/s/f", "/s/o/x", api.ErrFlow},
		// The label of what has the name, whatever it is.
		{0, "/f", "/o", api.ErrFlow}, {0, "/f", "/s", api.ErrFlow}, {0, "/f", "/t", api.ErrFlow}, {0, "/d", "/o", api.ErrFlow}, {0, "/d", "/s", api.ErrFlow}, {0, "/d", "/t", api.ErrFlow}, {2, "/s/f", "/s/o", api.ErrFlow}, {2, "/s/d", "/s/u", api.ErrFlow}, {2, "/s/d", "/s/o", api.ErrFlow},
		// Just one of both is a directory, with names or without.
		{0, "/f", "/d", api.ErrDir}, {0, "/f", "/dd", api.ErrDir}, {0, "/d", "/f", api.ErrDir}, {0, "/dd", "/f", api.ErrDir}, {0, "/d/e", "/f", api.ErrDir}, {0, "/d/e/f", "/d", api.ErrDir}, {0, "/d/e/f", "/d/e", api.ErrDir}, {2, "/s/f", "/s/d", api.ErrDir}, {2, "/s/d", "/s/f", api.ErrDir},
		// There is a name in the directory, also if this is the object's.
		{0, "/dd", "/d", api.ErrBusy}, {0, "/d/e", "/d", api.ErrBusy}, {0, "/dd", "/d/e", api.ErrBusy},
		// It is the same inode.
		{0, "/f", "/f", api.OK}, {0, "/d", "/d", api.OK}, {0, "/dd", "/dd", api.OK}, {0, "/d/e/f", "/d/e/f", api.OK}, {2, "/s/d", "/s/d", api.OK}, {2, "/s/f", "/s/f", api.OK},
	} {
		leaves(t, v, func() { renames(t, v, x.a, x.old, x.now, 0, false, x.want) })
	}
	// A path that begins with the same bytes is not under another one.
	renames(t, v, 0, "/d", "/dd/d", 0, false, api.OK)
	lists(t, v, 0, "/dd/d", []string{"e"}, api.OK)
	sound(t, v)
}

// Two names of one file stay two names.
func TestRenameToAnotherNameOfTheSameInode(t *testing.T) {
	v := rooted(t, roomy)
	makes(t, v, 0, "/f", "/d/")
	linked(t, v, 0, "/f", "/g", api.OK)
	linked(t, v, 0, "/f", "/d/f", api.OK)
	names := []string{"/f", "/g", "/d/f"}
	leaves(t, v, func() {
		for _, old := range names {
			for _, now := range names {
				renames(t, v, 0, old, now, 0, false, api.OK)
			}
		}
	})
	stats(t, v, 0, "/d/f", api.Stat{Kind: kindFile, Links: 3}, api.OK)
	sound(t, v)
}

// P18.5: Rename to a name that another inode has

func TestRenameToAFile(t *testing.T) {
	v := rooted(t, roomy)
	makes(t, v, 0, "/d/", "/f", "/g", "/d/h")
	f, _ := tree.Walk(v, 0, "/f")
	g, _ := tree.Walk(v, 0, "/g")
	h, _ := tree.Walk(v, 0, "/d/h")
	writes(t, v, f, 0, []byte("eff"))
	writes(t, v, g, 0, []byte("gee"))
	linked(t, v, 0, "/g", "/d/g", api.OK)
	// It keeps another name.
	changes(t, v, func() { renames(t, v, 0, "/f", "/g", g, false, api.OK) })
	walks(t, v, 0, "/f", 0, api.ErrNone)
	stats(t, v, 0, "/g", api.Stat{Kind: kindFile, Links: 1, Size: 3}, api.OK)
	stats(t, v, 0, "/d/g", api.Stat{Kind: kindFile, Links: 1, Size: 3}, api.OK)
	walks(t, v, 0, "/g", f, api.OK)
	sound(t, v)
	// It was its last name; its bytes stay until it is released.
	changes(t, v, func() { renames(t, v, 0, "/g", "/d/g", g, true, api.OK) })
	walks(t, v, 0, "/d/g", f, api.OK)
	keeps(t, v, f, "eff")
	keeps(t, v, g, "gee")
	lists(t, v, 0, "/", []string{"d"}, api.OK)
	lists(t, v, 0, "/d", []string{"g", "h"}, api.OK)
	sound(t, v)
	// In one directory.
	changes(t, v, func() { renames(t, v, 0, "/d/g", "/d/h", h, true, api.OK) })
	lists(t, v, 0, "/d", []string{"h"}, api.OK)
	walks(t, v, 0, "/d/h", f, api.OK)
	stats(t, v, 0, "/d/h", api.Stat{Kind: kindFile, Links: 1, Size: 3}, api.OK)
	sound(t, v)
	releases(t, v, g, api.OK)
	reaps(t, v, 1, api.OK)
	sound(t, v)
}

// The greatest number of links is none of Rename's concern.
func TestRenameWithTheMostLinks(t *testing.T) {
	v := rooted(t, roomy)
	makes(t, v, 0, "/f", "/g")
	links(t, v, 1, mostRefs)
	links(t, v, 2, mostRefs)
	changes(t, v, func() { renames(t, v, 0, "/f", "/h", 0, false, api.OK) })
	stats(t, v, 0, "/h", api.Stat{Kind: kindFile, Links: mostRefs}, api.OK)
	changes(t, v, func() { renames(t, v, 0, "/h", "/g", 2, false, api.OK) })
	stats(t, v, 0, "/g", api.Stat{Kind: kindFile, Links: mostRefs}, api.OK)
	if n, _, _ := v.Inode(2); n.Links != mostRefs-1 {
		t.Errorf("links: got %d", n.Links)
	}
}

func TestRenameToADirectory(t *testing.T) {
	v := rooted(t, roomy)
	makes(t, v, 0, "/d/", "/d/f", "/e/", "/g/", "/g/h/", "/g/i/")
	d, _ := tree.Walk(v, 0, "/d")
	e, _ := tree.Walk(v, 0, "/e")
	leaves(t, v, func() {
		renames(t, v, 0, "/e", "/d", 0, false, api.ErrBusy)
		renames(t, v, 0, "/e", "/g", 0, false, api.ErrBusy)
	})
	changes(t, v, func() { renames(t, v, 0, "/d", "/e", 0, false, api.OK) })
	walks(t, v, 0, "/d", 0, api.ErrNone)
	walks(t, v, 0, "/e", d, api.OK)
	lists(t, v, 0, "/e", []string{"f"}, api.OK)
	if _, _, f := v.Inode(e); f != api.ErrNone {
		t.Errorf("inode %d: error %d", e, f)
	}
	sound(t, v)
	// Into another directory, and with blocks of its own.
	h, _ := tree.Walk(v, 0, "/g/h")
	file.Write(v, h, 3824, []byte{0})
	file.Cut(v, h, 3840)
	n := inUse(v)
	changes(t, v, func() { renames(t, v, 0, "/e", "/g/h", 0, false, api.OK) })
	if inUse(v) != n-3 {
		t.Errorf("%d blocks in use, %d before", inUse(v), n)
	}
	lists(t, v, 0, "/", []string{"g"}, api.OK)
	lists(t, v, 0, "/g", []string{"h", "i"}, api.OK)
	lists(t, v, 0, "/g/h", []string{"f"}, api.OK)
	changes(t, v, func() { renames(t, v, 0, "/g/h", "/g/i", 0, false, api.OK) })
	lists(t, v, 0, "/g", []string{"i"}, api.OK)
	lists(t, v, 0, "/g/i", []string{"f"}, api.OK)
	sound(t, v)
	// Both are without a name.
	makes(t, v, 0, "/a/", "/b/")
	changes(t, v, func() { renames(t, v, 0, "/a", "/b", 0, false, api.OK) })
	lists(t, v, 0, "/", []string{"b", "g"}, api.OK)
	sound(t, v)
}

// Between directories of one label, and not of two; what is renamed has that label as well.
func TestRenameBetweenLabels(t *testing.T) {
	v := rooted(t, large)
	for _, s := range []string{"/a", "/b"} {
		for _, x := range []struct {
			name string
			a    api.Label
		}{{"0", 0}, {"2", 2}, {"4", 4}, {"6", 6}} {
			creates(t, v, 0, s+x.name, kindDir, x.a)
			makes(t, v, x.a, s+x.name+"/f", s+x.name+"/d/", s+x.name+"/d/g")
			creates(t, v, x.a, s+x.name+"/o", kindFile, x.a|8)
		}
	}
	at := map[string]api.Label{"0": 0, "2": 2, "4": 4, "6": 6}
	for old, b := range at {
		for now, c := range at {
			for _, a := range []api.Label{0, 2, 4, 6} {
				for _, s := range []string{"/f", "/d"} {
					want := api.ErrFlow
					if a == b && b == c {
						want = api.OK
					}
					begins(t, v)
					renames(t, v, a, "/a"+old+s, "/b"+now+"/x", 0, false, want)
					if want == api.OK {
						sound(t, v)
						v.Abort()
					}
				}
				leaves(t, v, func() {
					renames(t, v, a, "/a"+old+"/o", "/b"+now+"/x", 0, false, api.ErrFlow)
					renames(t, v, a, "/a"+old+"/f", "/b"+now+"/o", 0, false, api.ErrFlow)
				})
			}
		}
	}
	sound(t, v)
}

// No block is left: a name that goes makes room in its directory, but not in another one.
func TestRenameWithoutRoom(t *testing.T) {
	v := rooted(t, full(3))
	makes(t, v, 0, "/d/", "/e/", "/e/f", "/e/g", "/f")
	writes(t, v, 5, 0, []byte("moat"))
	undone(t, v, func() { renames(t, v, 0, "/e/f", "/d/f", 0, false, api.ErrFull) })
	undone(t, v, func() { renames(t, v, 0, "/f", "/d/f", 0, false, api.ErrFull) })
	changes(t, v, func() { renames(t, v, 0, "/e/f", "/e/h", 0, false, api.OK) })
	// What has the name has a place already.
	changes(t, v, func() { renames(t, v, 0, "/f", "/e/h", 3, true, api.OK) })
	unlinks(t, v, 0, "/e/g", 4, true, api.OK)
	// The last name of a directory leaves it a block.
	changes(t, v, func() { renames(t, v, 0, "/e/h", "/d/f", 0, false, api.OK) })
	sound(t, v)
	lists(t, v, 0, "/e", nil, api.OK)
	lists(t, v, 0, "/d", []string{"f"}, api.OK)
	keeps(t, v, 5, "moat")
}

// The path of what is under a directory may become longer than a path may be; it is renamed nevertheless.
func TestRenameOfDeepDirectories(t *testing.T) {
	v := rooted(t, large)
	path := ""
	for range 10 {
		path += "/d"
		makes(t, v, 0, path+"/")
	}
	other := ""
	for range 15 {
		other += "/e"
		makes(t, v, 0, other+"/")
	}
	changes(t, v, func() { renames(t, v, 0, "/d", other+"/d", 0, false, api.OK) })
	walks(t, v, 0, other+"/d", 1, api.OK)
	walks(t, v, 0, other+"/d/d", 0, api.ErrPath)
	sound(t, v)
	rmdirs(t, v, 0, other+"/d", api.ErrBusy)
	renames(t, v, 0, other+"/d", "/d", 0, false, api.OK)
	walks(t, v, 0, path, 10, api.OK)
	sound(t, v)
}
