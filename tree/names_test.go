package tree_test

import (
	"strconv"
	"strings"
	"testing"

	"moat/api"
	"moat/dir"
	"moat/file"
	"moat/tree"
)

// P18.4: Link

func TestLink(t *testing.T) {
	v := rooted(t, roomy)
	makes(t, v, 0, "/d/", "/d/e/", "/f", "/g")
	f, _ := tree.Walk(v, 0, "/f")
	writes(t, v, f, 0, []byte("moat"))
	for k, s := range []string{"/d/f", "/h", "/d/e/f", "/d/e/h", "/..."} {
		changes(t, v, func() { linked(t, v, 0, []string{"/f", "/d/f", "/h"}[k%3], s, api.OK) })
		walks(t, v, 3, s, f, api.OK)
		for _, name := range []string{"/f", s} {
			stats(t, v, 0, name, api.Stat{Kind: kindFile, Links: k + 2, Size: 4}, api.OK)
		}
		sound(t, v)
	}
	keeps(t, v, f, "moat")
	stats(t, v, 0, "/g", api.Stat{Kind: kindFile, Links: 1}, api.OK)
	if n := inodes(v); n != 5 {
		t.Errorf("%d inodes", n)
	}
}

// Each error of Link, in their order.
func TestLinkOfWrongThings(t *testing.T) {
	v := rooted(t, roomy)
	makes(t, v, 0, "/d/", "/e/", "/f", "/g", "/m")
	creates(t, v, 0, "/o", kindFile, 2)
	creates(t, v, 0, "/s", kindDir, 2)
	makes(t, v, 2, "/s/f")
	m, _ := tree.Walk(v, 0, "/m")
	links(t, v, m, mostRefs)
	for _, x := range []struct {
		a        api.Label
		old, now string
		want     api.Errno
	}{
		// The location of old, and the object there.
		{0, "/x/f", "/g", api.ErrNone}, {0, "/x", "x", api.ErrNone}, {0, "/o", "x", api.ErrFlow}, {0, "/s", "x", api.ErrFlow}, {0, "/", "/x", api.ErrPath},
		// It is a directory, wherever the new name would be.
		{0, "/d", "/x", api.ErrDir}, {0, "/d", "/g", api.ErrDir}, {0, "/d", "/d/x", api.ErrDir}, {0, "/d", "x", api.ErrDir}, {0, "/d", "/", api.ErrDir}, {0, "/d", "/s/x", api.ErrDir}, {0, "/d", "/d", api.ErrDir}, {0, "/d", "/e", api.ErrDir},
		// The location of now.
		{0, "/f", "x", api.ErrPath}, {0, "/f", "/", api.ErrPath}, {0, "/f", "/x/y", api.ErrNone}, {0, "/f", "/g/y", api.ErrDir}, {0, "/f", "/f/y", api.ErrDir}, {0, "/f", "/s/y", api.ErrFlow}, {0, "/f", "/s/f", api.ErrFlow}, {0, "/f", "/o/y", api.ErrFlow},
		{0, "/m", "x", api.ErrPath}, {0, "/m", "/x/y", api.ErrNone}, {0, "/m", "/s/y", api.ErrFlow}, {2, "/s/f", "/x", api.ErrFlow}, {2, "/s/f", "/f", api.ErrFlow}, {2, "/s/f", "/d/x", api.ErrFlow},
		// There is such a name, of whatever it is.
		{0, "/f", "/f", api.ErrThere}, {0, "/f", "/g", api.ErrThere}, {0, "/f", "/d", api.ErrThere}, {0, "/f", "/o", api.ErrThere}, {0, "/f", "/s", api.ErrThere}, {2, "/s/f", "/s/f", api.ErrThere},
		{0, "/m", "/f", api.ErrThere}, {0, "/m", "/m", api.ErrThere},
		// It has as many links as it may have.
		{0, "/m", "/x", api.ErrLong}, {0, "/m", "/d/x", api.ErrLong},
	} {
		leaves(t, v, func() { linked(t, v, x.a, x.old, x.now, x.want) })
	}
}

// The last link that an object may get.
func TestLinkUpToTheMostLinks(t *testing.T) {
	v := rooted(t, roomy)
	makes(t, v, 0, "/f")
	for _, n := range []int{1, 2, 255, 256, 32767, 32768, mostRefs - 2, mostRefs - 1, mostRefs} {
		links(t, v, 1, n)
		want := api.OK
		if n == mostRefs {
			want = api.ErrLong
		}
		begins(t, v)
		linked(t, v, 0, "/f", "/x", want)
		s, _ := tree.Stat(v, 0, "/f")
		if want == api.OK && s.Links != n+1 || want != api.OK && s.Links != n {
			t.Errorf("%d links: now %d", n, s.Links)
		}
		v.Abort()
	}
}

// P18.4: Unlink

func TestUnlink(t *testing.T) {
	v := rooted(t, roomy)
	makes(t, v, 0, "/d/", "/f", "/g")
	f, _ := tree.Walk(v, 0, "/f")
	g, _ := tree.Walk(v, 0, "/g")
	writes(t, v, f, 70, []byte("moat"))
	for _, s := range []string{"/d/f", "/d/g", "/h"} {
		linked(t, v, 0, "/f", s, api.OK)
	}
	n := inUse(v)
	for k, s := range []string{"/f", "/d/g", "/h"} {
		changes(t, v, func() { unlinks(t, v, 0, s, f, false, api.OK) })
		leaves(t, v, func() {
			walks(t, v, 0, s, 0, api.ErrNone)
			unlinks(t, v, 0, s, 0, false, api.ErrNone)
			stats(t, v, 0, "/d/f", api.Stat{Kind: kindFile, Links: 3 - k, Size: 74}, api.OK)
		})
		sound(t, v)
	}
	changes(t, v, func() { unlinks(t, v, 0, "/d/f", f, true, api.OK) })
	walks(t, v, 0, "/d/f", 0, api.ErrNone)
	// It stays until it is released.
	keeps(t, v, f, strings.Repeat("\x00", 70)+"moat")
	if x, _, e := v.Inode(f); x.Links != 0 || x.Kind != kindFile || e != api.OK || inUse(v) != n-1 {
		t.Errorf("got %v, error %d, %d blocks in use", x, e, inUse(v))
	}
	changes(t, v, func() { unlinks(t, v, 0, "/g", g, true, api.OK) })
	lists(t, v, 0, "/", []string{"d"}, api.OK)
	sound(t, v)
}

// Each error of Unlink and of Rmdir, in their order.
func TestUnlinkAndRmdirOfWrongThings(t *testing.T) {
	v := rooted(t, roomy)
	makes(t, v, 0, "/d/", "/d/f", "/e/", "/f")
	creates(t, v, 0, "/o", kindFile, 2)
	creates(t, v, 0, "/s", kindDir, 2)
	creates(t, v, 0, "/t", kindDir, 2)
	makes(t, v, 2, "/s/f", "/s/d/", "/s/d/x", "/s/e/")
	for _, x := range []struct {
		a             api.Label
		path          string
		unlink, rmdir api.Errno // OK: it is not called here
	}{
		{0, "/", api.ErrPath, api.ErrPath},
		{0, "/x", api.ErrNone, api.ErrNone}, {0, "/d/x", api.ErrNone, api.ErrNone}, {0, "/x/f", api.ErrNone, api.ErrNone}, {0, "/f/f", api.ErrDir, api.ErrDir},
		{0, "/o", api.ErrFlow, api.ErrFlow}, {0, "/s", api.ErrFlow, api.ErrFlow}, {0, "/t", api.ErrFlow, api.ErrFlow}, {0, "/s/f", api.ErrFlow, api.ErrFlow},
		{2, "/o", api.ErrFlow, api.ErrFlow}, {2, "/s", api.ErrFlow, api.ErrFlow}, {2, "/t", api.ErrFlow, api.ErrFlow}, {2, "/d", api.ErrFlow, api.ErrFlow}, {2, "/d/f", api.ErrFlow, api.ErrFlow}, {6, "/s/e", api.ErrFlow, api.ErrFlow},
		{0, "/d", api.ErrDir, api.ErrBusy}, {0, "/e", api.ErrDir, api.OK}, {2, "/s/d", api.ErrDir, api.ErrBusy}, {2, "/s/e", api.ErrDir, api.OK},
		{0, "/f", api.OK, api.ErrDir}, {0, "/d/f", api.OK, api.ErrDir}, {2, "/s/f", api.OK, api.ErrDir},
	} {
		leaves(t, v, func() {
			if x.unlink != api.OK {
				unlinks(t, v, x.a, x.path, 0, false, x.unlink)
			}
			if x.rmdir != api.OK {
				rmdirs(t, v, x.a, x.path, x.rmdir)
			}
		})
	}
	sound(t, v)
}

// An object that has a name, but no link, can't lose one: this is undone.
func TestUnlinkWithoutALink(t *testing.T) {
	v := rooted(t, roomy)
	makes(t, v, 0, "/f", "/g")
	links(t, v, 1, 0)
	undone(t, v, func() {
		unlinks(t, v, 0, "/f", 0, false, api.ErrArg)
		renames(t, v, 0, "/g", "/f", 0, false, api.ErrArg)
	})
	lists(t, v, 0, "/", []string{"f", "g"}, api.OK)
}

// P18.4: Rmdir

func TestRmdir(t *testing.T) {
	v := rooted(t, roomy)
	makes(t, v, 0, "/d/", "/d/e/", "/d/e/g/", "/d/f", "/h/")
	for _, s := range []string{"/d", "/d/e"} {
		leaves(t, v, func() { rmdirs(t, v, 0, s, api.ErrBusy) })
	}
	for _, x := range []struct {
		path string
		i    int
	}{{"/d/e/g", 3}, {"/d/e", 2}, {"/h", 5}} {
		changes(t, v, func() { rmdirs(t, v, 0, x.path, api.OK) })
		leaves(t, v, func() {
			rmdirs(t, v, 0, x.path, api.ErrNone)
			walks(t, v, 0, x.path, 0, api.ErrNone)
			lists(t, v, 0, x.path, nil, api.ErrNone)
		})
		if _, _, e := v.Inode(x.i); e != api.ErrNone {
			t.Errorf("inode %d: error %d", x.i, e)
		}
		sound(t, v)
	}
	leaves(t, v, func() { rmdirs(t, v, 0, "/d", api.ErrBusy) })
	unlinks(t, v, 0, "/d/f", 4, true, api.OK)
	rmdirs(t, v, 0, "/d", api.OK)
	lists(t, v, 0, "/", nil, api.OK)
	reaps(t, v, 1, api.OK)
	if inUse(v) != 0 || inodes(v) != 1 || rowsFree(v) != 15 {
		t.Errorf("%d blocks in use, %d inodes, %d free rows", inUse(v), inodes(v), rowsFree(v))
	}
}

// A directory without a name may have bytes, and blocks, nevertheless; they are freed.
func TestRmdirOfFreeEntries(t *testing.T) {
	for _, n := range []int{16, 64, 640, 3840} {
		v := rooted(t, full(64))
		makes(t, v, 0, "/d/")
		file.Write(v, 1, n-16, []byte{0})
		file.Cut(v, 1, n)
		changes(t, v, func() { rmdirs(t, v, 0, "/d", api.OK) })
		if inUse(v) != 0 || inodes(v) != 1 {
			t.Errorf("%d blocks in use, %d inodes", inUse(v), inodes(v))
		}
	}
}

// P18.6: Release

func TestRelease(t *testing.T) {
	v := rooted(t, large)
	makes(t, v, 0, "/f", "/g", "/d/")
	linked(t, v, 0, "/f", "/h", api.OK)
	for _, n := range []int{0, 1, 500, 513, 2561, 3840} {
		creates(t, v, 0, "/n", kindFile, 0)
		if n > 0 {
			writes(t, v, 4, 0, []byte(strings.Repeat("x", n)))
		}
		leaves(t, v, func() {
			for _, i := range []int{0, 1, 2, 3, 4} {
				releases(t, v, i, api.ErrBusy)
			}
			for _, i := range []int{5, 6, 63} {
				releases(t, v, i, api.ErrNone)
			}
			for _, i := range extremes {
				releases(t, v, i, api.ErrArg)
			}
		})
		unlinks(t, v, 0, "/n", 4, true, api.OK)
		changes(t, v, func() { releases(t, v, 4, api.OK) })
		leaves(t, v, func() { releases(t, v, 4, api.ErrNone) })
		if inUse(v) != 1 || inodes(v) != 4 {
			t.Errorf("%d blocks in use, %d inodes", inUse(v), inodes(v))
		}
		sound(t, v)
	}
	unlinks(t, v, 0, "/f", 1, false, api.OK)
	leaves(t, v, func() { releases(t, v, 1, api.ErrBusy) })
	unlinks(t, v, 0, "/h", 1, true, api.OK)
	releases(t, v, 1, api.OK)
}

// Whatever the label and the kind, and the root as well, if it has no link.
func TestReleaseOfAnyInode(t *testing.T) {
	v, _ := mounted(t, roomy)
	for k := range 6 {
		v.Make(uint8(1+k%2), api.Label(k*9))
	}
	for _, i := range []int{3, 0, 5, 1, 4, 2} {
		links(t, v, i, 1)
		releases(t, v, i, api.ErrBusy)
		links(t, v, i, mostRefs)
		releases(t, v, i, api.ErrBusy)
		links(t, v, i, 0)
		releases(t, v, i, api.OK)
		releases(t, v, i, api.ErrNone)
	}
	if inodes(v) != 0 || rowsFree(v) != 16 {
		t.Errorf("%d inodes, %d free rows", inodes(v), rowsFree(v))
	}
}

// An inode whose pointers refer to no block can't be dropped.
func TestReleaseOfWrongPointers(t *testing.T) {
	v := rooted(t, roomy)
	i, _ := v.Make(kindFile, 0)
	n, _, _ := v.Inode(i)
	n.Size, n.Ind = 600, 500
	v.Set(i, n)
	undone(t, v, func() { releases(t, v, i, api.ErrArg) })
	v.Make(kindFile, 0)
	leaves(t, v, func() { reaps(t, v, 0, api.ErrArg) })
	n.Size, n.Ind, n.Direct[7] = 512, 0, 64
	v.Set(i, n)
	undone(t, v, func() { releases(t, v, i, api.ErrNone) })
	undone(t, v, func() { reaps(t, v, 0, api.ErrNone) })
}

// P18.6: Reap

func TestReap(t *testing.T) {
	v := rooted(t, roomy)
	leaves(t, v, func() { reaps(t, v, 0, api.OK) })
	makes(t, v, 0, "/d/", "/f", "/g", "/h", "/i")
	creates(t, v, 0, "/s", kindDir, 2)
	makes(t, v, 2, "/s/f", "/s/g")
	linked(t, v, 0, "/f", "/ff", api.OK)
	leaves(t, v, func() { reaps(t, v, 0, api.OK) })
	// One.
	writes(t, v, 3, 0, []byte(strings.Repeat("x", 600)))
	unlinks(t, v, 0, "/g", 3, true, api.OK)
	changes(t, v, func() { reaps(t, v, 1, api.OK) })
	leaves(t, v, func() { reaps(t, v, 0, api.OK) })
	if _, _, e := v.Inode(3); e != api.ErrNone || inUse(v) != 3 {
		t.Errorf("inode 3: error %d; %d blocks in use", e, inUse(v))
	}
	// Several, one of them at the end.
	for range v.Geo().Inodes - inodes(v) {
		v.Make(kindFile, 77)
	}
	unlinks(t, v, 0, "/h", 4, true, api.OK)
	unlinks(t, v, 0, "/f", 2, false, api.OK)
	unlinks(t, v, 2, "/s/f", 7, true, api.OK)
	unlinks(t, v, 2, "/s/g", 8, true, api.OK)
	writes(t, v, 8, 0, []byte("moat"))
	n := inodes(v)
	changes(t, v, func() { reaps(t, v, n-5, api.OK) })
	if inodes(v) != 5 || rowsFree(v) != 14 {
		t.Errorf("%d inodes, %d free rows", inodes(v), rowsFree(v))
	}
	lists(t, v, 0, "/", []string{"d", "ff", "i", "s"}, api.OK)
	lists(t, v, 2, "/s", nil, api.OK)
	leaves(t, v, func() { reaps(t, v, 0, api.OK) })
	sound(t, v)
}

// Directories and the root are dropped as well, if they have no link.
func TestReapOfAllInodes(t *testing.T) {
	for _, g := range []api.Geo{roomy, large, {Journal: 100, Inodes: 2, Groups: 1, PerGroup: 1}} {
		v, _ := mounted(t, g)
		for k := range g.Inodes {
			v.Make(uint8(1+k%2), api.Label(k%16))
		}
		links(t, v, 1, 1)
		was := pictured(v)
		reaps(t, v, g.Inodes-1, api.OK)
		v.Abort()
		samePicture(t, pictured(v), was)
		reaps(t, v, g.Inodes-1, api.OK)
		if _, _, e := v.Inode(1); e != api.OK || inodes(v) != 1 {
			t.Errorf("inode 1: error %d; %d inodes", e, inodes(v))
		}
		links(t, v, 1, 0)
		reaps(t, v, 1, api.OK)
		reaps(t, v, 0, api.OK)
	}
}

// However many blocks are freed, the journal has room for what is to be written.
func TestReapOfManyBlocks(t *testing.T) {
	for files := range 5 {
		v, d := rootedOn(t, tight)
		for k := range files {
			s := "/f" + strconv.Itoa(k)
			i := creates(t, v, 0, s, kindFile, 0)
			for at := 0; at < 3840; at += 960 {
				begins(t, v)
				writes(t, v, i, at, []byte(strings.Repeat("x", 960)))
			}
			unlinks(t, v, 0, s, i, true, api.OK)
			if k%2 == 0 {
				syncs(t, v)
			}
		}
		creates(t, v, 0, "/d", kindDir, 0)
		reaps(t, v, files, api.OK)
		syncs(t, v)
		if inUse(v) != 1 || inodes(v) != 2 {
			t.Errorf("%d files: %d blocks in use, %d inodes", files, inUse(v), inodes(v))
		}
		v = mounts(t, d)
		if inUse(v) != 1 || inodes(v) != 2 {
			t.Errorf("%d files: %d blocks in use, %d inodes on the disk", files, inUse(v), inodes(v))
		}
		sound(t, v)
	}
}

// What is dropped is one change, as long as it frees no more blocks than a change may.
func TestReapIsOneChange(t *testing.T) {
	for _, last := range []int{0, 64} {
		v := rooted(t, large)
		// These have 63, 8, 8 and 1 blocks.
		for k, n := range []int{3840, 512, 512, 64, last} {
			v.Make(kindFile, 0)
			if n > 0 {
				writes(t, v, k+1, 0, []byte(strings.Repeat("x", n)))
			}
		}
		if last == 0 {
			changes(t, v, func() { reaps(t, v, 5, api.OK) })
			continue
		}
		begins(t, v)
		reaps(t, v, 5, api.OK)
		if inUse(v) != 0 || inodes(v) != 1 {
			t.Errorf("%d blocks in use, %d inodes", inUse(v), inodes(v))
		}
		// The last file was a change of its own.
		v.Abort()
		if _, _, e := v.Inode(5); e != api.OK || inUse(v) != 1 || inodes(v) != 2 {
			t.Errorf("behind an Abort: error %d, %d blocks in use, %d inodes", e, inUse(v), inodes(v))
		}
	}
}

// Behind an error nothing is dropped, also of the files ahead.
func TestReapWithoutPower(t *testing.T) {
	v, d := rootedOn(t, large)
	for k, n := range []int{100, 3840, 0, 600} {
		v.Make(kindFile, 0)
		if n > 0 {
			writes(t, v, k+1, 0, []byte(strings.Repeat("x", n)))
		}
	}
	syncs(t, v)
	leaves(t, v, func() {
		off(t, d)
		reaps(t, v, 0, api.ErrDead)
		d.Crash(0)
	})
	reaps(t, v, 4, api.OK)
}

// P18.7: with names in many directories, and as many links.
func TestNamesAndLinks(t *testing.T) {
	v := rooted(t, large)
	dirs := []string{""}
	for k := range 8 {
		s := dirs[k/2] + "/d" + strconv.Itoa(k)
		makes(t, v, 0, s+"/")
		dirs = append(dirs, s)
	}
	makes(t, v, 0, "/f")
	for k, s := range dirs {
		for i := range k {
			linked(t, v, 0, "/f", s+"/f"+strconv.Itoa(i), api.OK)
			sound(t, v)
		}
	}
	stats(t, v, 0, "/f", api.Stat{Kind: kindFile, Links: 37}, api.OK)
	for k, s := range dirs {
		for i := range k {
			unlinks(t, v, 0, s+"/f"+strconv.Itoa(i), 9, false, api.OK)
			sound(t, v)
		}
	}
	stats(t, v, 0, "/f", api.Stat{Kind: kindFile, Links: 1}, api.OK)
	for k := len(dirs) - 1; k > 0; k-- {
		rmdirs(t, v, 0, dirs[k], api.OK)
	}
	l, _ := dir.List(v, 0)
	if len(l) != 1 || inodes(v) != 2 {
		t.Errorf("entries: got %v; %d inodes", l, inodes(v))
	}
}
