package dir_test

import (
	"slices"
	"testing"

	"moat/api"
	"moat/dir"
	"moat/file"
	"moat/super"
	"moat/volume"
)

// P17.2: no block is left

// An Add ends at each of the allocations that it does: the blocks allocated so far remain, and the directory is as it was.
func TestAddWithoutRoom(t *testing.T) {
	for _, x := range []struct{ entries, has, need int }{
		{0, 0, 1}, {4, 1, 1}, {28, 7, 1}, {32, 8, 2}, {36, 10, 1}, {156, 40, 1}, {160, 41, 3}, {164, 44, 1}, {236, 62, 1},
	} {
		for room := range x.need {
			v := withBytes(t, full(1+x.has+room), named(names(x.entries)...).bytes())
			// There is no volume without a block.
			writes(t, v, makes(t, v, api.KindFile, 6), 0, []byte{1})
			begins(t, v)
			was := pictured(v)
			adds(t, v, 0, "new", 1, api.ErrFull)
			if n := inUse(v); n != 1+x.has+room {
				t.Fatalf("blocks in use: got %d, want 1, %d and %d", n, x.has, room)
			}
			sameContents(t, pictured(v), was)
			holds(t, v, 0, named(names(x.entries)...))
			finds(t, v, 0, "new", 0, api.ErrNone)
			v.Abort()
			samePicture(t, pictured(v), was)
		}
		l := named(names(x.entries)...)
		v := withBytes(t, full(x.has+x.need), l.bytes())
		adds(t, v, 0, "new", 1, api.OK)
		holds(t, v, 0, append(l, api.Entry{Name: "new", Inode: 1}))
		if n := inUse(v); n != x.has+x.need {
			t.Fatalf("blocks in use: got %d, want %d", n, x.has+x.need)
		}
	}
}

// A free entry in a block that is not there needs one as well.
func TestAddIntoAMissingBlockWithoutRoom(t *testing.T) {
	v := withDir(t, full(1))
	writes(t, v, 0, 20*per, named("a").bytes())
	l := append(make(table, 20), named("a")...)
	begins(t, v)
	was := pictured(v)
	for range 3 {
		adds(t, v, 0, "b", 2, api.ErrFull)
		sameContents(t, pictured(v), was)
		holds(t, v, 0, l)
		v.Abort()
		samePicture(t, pictured(v), was)
	}
	replaces(t, v, 0, "a", 9, 1, api.OK)
	removes(t, v, 0, "a", api.OK)
	adds(t, v, 0, "b", 2, api.OK)
	holds(t, v, 0, table{{Name: "b", Inode: 2}})
}

// What needs no block is done without room, and each other error comes ahead of that of the room.
func TestChangesWithoutRoom(t *testing.T) {
	for _, x := range []struct{ entries, has int }{{4, 1}, {32, 8}, {160, 41}} {
		l := named(names(x.entries)...)
		v := withBytes(t, full(x.has), l.bytes())
		leaves(t, v, func() {
			adds(t, v, 0, "a/b", 1, api.ErrName)
			adds(t, v, 0, "new", 64, api.ErrArg)
			adds(t, v, 0, name(1), 1, api.ErrThere)
			removes(t, v, 0, "new", api.ErrNone)
			replaces(t, v, 0, "new", 1, 0, api.ErrNone)
		})
		replaces(t, v, 0, name(1), 9, 2, api.OK)
		removes(t, v, 0, name(2), api.OK)
		adds(t, v, 0, "new", 1, api.OK)
		l[1].Inode, l[2] = 9, api.Entry{Name: "new", Inode: 1}
		holds(t, v, 0, l)
		removes(t, v, 0, l[x.entries-1].Name, api.OK)
		adds(t, v, 0, "last", 5, api.OK)
		l[x.entries-1] = api.Entry{Name: "last", Inode: 5}
		holds(t, v, 0, l)
	}
}

// A group of another label has blocks, but not for this one.
func TestAddWithoutAGroup(t *testing.T) {
	v, _ := mounted(t, api.Geo{Journal: 200, Inodes: 4, Groups: 2, PerGroup: 4})
	makes(t, v, api.KindDir, 1)
	makes(t, v, api.KindDir, 2)
	makes(t, v, api.KindDir, 4)
	for i := range 2 {
		adds(t, v, i, "a", 1, api.OK)
	}
	begins(t, v)
	leaves(t, v, func() { adds(t, v, 2, "a", 1, api.ErrFull) })
	holds(t, v, 2, nil)
	for k := range 15 {
		adds(t, v, 0, name(k), k, api.OK)
	}
	begins(t, v)
	leaves(t, v, func() { adds(t, v, 0, "b", 1, api.ErrFull) })
	adds(t, v, 1, "b", 2, api.OK)
	holds(t, v, 1, named("a", "b"))
	removes(t, v, 1, "a", api.OK)
	removes(t, v, 1, "b", api.OK)
	adds(t, v, 2, "a", 1, api.OK)
	holds(t, v, 2, named("a"))
}

// An Abort undoes what was done since Begin, whatever it was.
func TestAbort(t *testing.T) {
	l := named(names(double + 1)...)
	v := withBytes(t, roomy, l.bytes())
	for _, change := range []func(){
		func() { adds(t, v, 0, "new", 1, api.OK) },
		func() { removes(t, v, 0, name(double), api.OK) },
		func() { removes(t, v, 0, name(0), api.OK) },
		func() { replaces(t, v, 0, name(9), 0, 10, api.OK) },
		func() {
			for k := range l {
				removes(t, v, 0, name(k), api.OK)
			}
		},
	} {
		begins(t, v)
		was := pictured(v)
		change()
		v.Abort()
		samePicture(t, pictured(v), was)
		holds(t, v, 0, l)
	}
}

// Inodes that were not written by the layers, but by Set: whatever they say, a call returns.

// sets fails the test unless inode i becomes n, whose kind and row stay.
func sets(t *testing.T, v *volume.Volume, i int, n api.Inode) {
	t.Helper()
	was, _, _ := v.Inode(i)
	n.Kind, n.Row = was.Kind, was.Row
	if e := v.Set(i, n); e != api.OK {
		t.Fatalf("Set of %d to %v: error %d", i, n, e)
	}
}

// Bytes beyond the size are none of the directory's, whatever they are.
func TestBytesBeyondTheSize(t *testing.T) {
	rest := named(names(20)...)
	for n := range 13 {
		v := withBytes(t, roomy, rest.bytes())
		inode, _, _ := v.Inode(0)
		inode.Size = n * per
		sets(t, v, 0, inode)
		l := slices.Clone(rest[:n])
		holds(t, v, 0, l)
		finds(t, v, 0, name(n), 0, api.ErrNone)
		removes(t, v, 0, name(n), api.ErrNone)
		replaces(t, v, 0, name(n), 1, 0, api.ErrNone)
		if n > 0 {
			replaces(t, v, 0, name(0), 9, 1, api.OK)
			l[0].Inode = 9
			holds(t, v, 0, l)
		}
		for k := n; k < 20; k++ {
			adds(t, v, 0, name(k), 63-k, api.OK)
			l = append(l, api.Entry{Name: name(k), Inode: 63 - k})
			holds(t, v, 0, l)
		}
		for k := range l {
			removes(t, v, 0, name(k), api.OK)
		}
		holds(t, v, 0, nil)
		if k := inUse(v); k != 0 {
			t.Fatalf("%d blocks are in use", k)
		}
	}
}

// The bytes of an inode with pointers to no block can't be read; this comes behind ErrDir.
func TestPointersToNoBlock(t *testing.T) {
	for _, n := range []api.Inode{{Size: 64, Direct: [8]int{9}}, {Size: 128, Direct: [8]int{1, 512}}, {Size: 528, Ind: 9}, {Size: 2576, Dind: 512}, {Size: 528, Ind: 1}} {
		v := withBytes(t, full(8), []byte{255, 255, 255, 255})
		makes(t, v, api.KindFile, 6)
		sets(t, v, 0, n)
		sets(t, v, 1, n)
		leaves(t, v, func() {
			refuses(t, v, 0, api.ErrArg)
			refuses(t, v, 1, api.ErrDir)
		})
	}
}

// What is to be removed lies in blocks that are not in use: an error of layer 16, behind which the change must be undone.
func TestPointersToUnusedBlocks(t *testing.T) {
	v := withBytes(t, full(8), named("a", "b", "c", "d", "e").bytes())
	n, _, _ := v.Inode(0)
	n.Size, n.Direct[2], n.Direct[5] = 384, 8, 7
	sets(t, v, 0, n)
	l := append(named("a", "b", "c", "d", "e"), make(table, 19)...)
	begins(t, v)
	was := pictured(v)
	for _, s := range []string{"a", "e"} {
		removes(t, v, 0, s, api.ErrNone)
		v.Abort()
		samePicture(t, pictured(v), was)
	}
	// These blocks are not asked for.
	replaces(t, v, 0, "e", 9, 5, api.OK)
	adds(t, v, 0, "f", 6, api.OK)
	l[4].Inode, l[5] = 9, api.Entry{Name: "f", Inode: 6}
	holds(t, v, 0, l)
}

// A directory may lie in a block that is not in use, which can be read, but not written.
func TestDirectoryInAnUnusedBlock(t *testing.T) {
	for _, l := range []table{named("a", "b", "c"), named("a", "b", "c", "d")} {
		v, d := mounted(t, full(8))
		makes(t, v, api.KindDir, 6)
		p, _ := super.Plan(full(8))
		d.Write(api.Patch{Sector: p.Blocks + 5, Bytes: append(l.bytes(), make([]byte, size-len(l)*per)...)})
		sets(t, v, 0, api.Inode{Size: len(l) * per, Direct: [8]int{6}})
		holds(t, v, 0, l)
		leaves(t, v, func() {
			replaces(t, v, 0, "b", 9, 0, api.ErrNone)
			removes(t, v, 0, "a", api.ErrNone)
			removes(t, v, 0, l[len(l)-1].Name, api.ErrNone)
			if len(l) < inner {
				adds(t, v, 0, "d", 9, api.ErrNone)
			}
			// Nothing is to be written.
			replaces(t, v, 0, "b", 2, 2, api.OK)
		})
	}
}

// What is beyond the size is asked for when a directory becomes shorter, and only then.
func TestWrongPointersBeyondTheSize(t *testing.T) {
	for _, x := range []struct {
		more, ind, dind int
		want            api.Errno
	}{{9, 0, 0, api.ErrNone}, {512, 0, 0, api.ErrNone}, {0, 1, 0, api.ErrArg}, {0, 0, 100, api.ErrArg}} {
		l := named("a", "b", "c", "d", "e", "f")
		v := withBytes(t, full(8), l.bytes())
		sets(t, v, 0, api.Inode{Size: len(l) * per, Direct: [8]int{1, 2, 0, x.more}, Ind: x.ind, Dind: x.dind})
		leaves(t, v, func() { removes(t, v, 0, "f", x.want) })
		removes(t, v, 0, "b", api.OK)
		replaces(t, v, 0, "f", 9, 6, api.OK)
		adds(t, v, 0, "g", 7, api.OK)
		l[1], l[5].Inode = api.Entry{Name: "g", Inode: 7}, 9
		holds(t, v, 0, l)
	}
}

// tangled returns a volume with any pointers in two directories and in some of its blocks, the same ones among them.
func (x *dice) tangled(t *testing.T) *volume.Volume {
	t.Helper()
	v, d := mounted(t, full(20))
	for range 2 {
		makes(t, v, api.KindDir, 6)
	}
	for k := range 8 + x.under(12) {
		b := named(names(4 * k)[max(0, 4*k-x.under(5)):]...).bytes()
		b = append(b, make([]byte, size-len(b))...)
		if x.under(3) == 0 {
			b = make([]byte, size)
			b[2*x.under(32)] = byte(x.under(24))
		}
		block, e := v.Alloc(6)
		if e != api.OK || v.Write(block, b) != api.OK {
			t.Fatalf("Alloc: got %d, error %d", block, e)
		}
	}
	for range x.under(4) {
		v.Free(x.under(20))
	}
	for i := range 2 {
		n := api.Inode{Size: per * x.under(x.under(most)+1)}
		for k := range n.Direct {
			n.Direct[k] = x.under(22) * x.under(2)
		}
		n.Ind, n.Dind = x.under(22)*x.under(2), x.under(22)*x.under(2)
		sets(t, v, i, n)
	}
	syncs(t, v)
	if x.under(8) == 0 {
		off(t, d)
	}
	return v
}

func TestTangledDirectories(t *testing.T) {
	for seed := range 20000 {
		x := dice(seed)
		v := x.tangled(t)
		for range 3 {
			i, s := x.under(2), name(x.under(80))
			was := pictured(v)
			l, e := dir.List(v, i)
			if len(l) > 0 && x.under(2) == 0 {
				s = l[x.under(len(l))].Name
			}
			_, ef := dir.Find(v, i, s)
			samePicture(t, pictured(v), was)
			if e != api.OK && ef != e {
				t.Fatalf("seed %d: Find: error %d, List: %d", seed, ef, e)
			}
			switch x.under(3) {
			case 0:
				if dir.Add(v, i, api.Entry{Name: s, Inode: x.under(65)}) != api.OK {
					sameContents(t, pictured(v), was)
				}
			case 1:
				if _, e := dir.Replace(v, i, api.Entry{Name: s, Inode: x.under(65)}); e != api.OK {
					samePicture(t, pictured(v), was)
				}
			default:
				if dir.Remove(v, i, s) != api.OK && e != api.OK {
					samePicture(t, pictured(v), was)
				}
			}
			file.Blocks(v, i)
		}
	}
}
