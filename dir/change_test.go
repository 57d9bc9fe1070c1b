package dir_test

import (
	"slices"
	"strings"
	"testing"

	"moat/api"
	"moat/dir"
	"moat/file"
	"moat/volume"
)

// P17.2: Add

// Entry after entry, up to a directory that is full and one beyond it.
func TestAddUpToAFullDirectory(t *testing.T) {
	v := withDir(t, whole)
	var l table
	for k := range most {
		l = append(l, api.Entry{Name: name(k), Inode: (k + 9) % 64})
		adds(t, v, 0, l[k].Name, l[k].Inode, api.OK)
		has(t, v, 0, l.bytes())
	}
	holds(t, v, 0, l)
	leaves(t, v, func() {
		adds(t, v, 0, "one more", 1, api.ErrFull)
		adds(t, v, 0, name(0), 1, api.ErrThere)
		adds(t, v, 0, "a/b", 1, api.ErrName)
		adds(t, v, 0, "one more", 64, api.ErrArg)
	})
	// Any of them makes room for another one.
	for _, at := range []int{0, 1, 100, most - 1} {
		removes(t, v, 0, l[at].Name, api.OK)
		adds(t, v, 0, "one more", at%64, api.OK)
		leaves(t, v, func() { adds(t, v, 0, l[at].Name, 1, api.ErrFull) })
		removes(t, v, 0, "one more", api.OK)
		adds(t, v, 0, l[at].Name, l[at].Inode, api.OK)
		holds(t, v, 0, l)
	}
}

// An entry is written into the first free one, wherever it is, and behind the last one only if there is none.
func TestAddIntoTheFirstFreeEntry(t *testing.T) {
	base := named(names(direct + 3)...)
	for at := range len(base) - 1 {
		for _, next := range []int{at, at + 1, at + 5} {
			l := slices.Clone(base)
			l[at], l[min(next, len(l)-2)] = api.Entry{}, api.Entry{}
			v := withBytes(t, roomy, l.bytes())
			adds(t, v, 0, "new", 60, api.OK)
			l[at] = api.Entry{Name: "new", Inode: 60}
			holds(t, v, 0, l)
			adds(t, v, 0, "other", 61, api.OK)
			if k := l.place(""); k >= 0 {
				l[k] = api.Entry{Name: "other", Inode: 61}
			} else {
				l = append(l, api.Entry{Name: "other", Inode: 61})
			}
			holds(t, v, 0, l)
		}
	}
}

func TestAddOfOddNames(t *testing.T) {
	v := withDir(t, roomy)
	var l table
	for k, s := range oddNames {
		adds(t, v, 0, s, k, api.OK)
		l = append(l, api.Entry{Name: s, Inode: k})
		adds(t, v, 0, s, k, api.ErrThere)
	}
	holds(t, v, 0, l)
}

// The first error is that of the name, then that of the inode, then that of the names that are there.
func TestAddOfWrongEntries(t *testing.T) {
	for _, l := range []table{nil, named("a"), named("", "a", "b"), named(names(most)...)} {
		v := withBytes(t, roomy, l.bytes())
		leaves(t, v, func() {
			for _, s := range wrongNames {
				for _, n := range slices.Concat([]int{0, 1, 63}, wrongInodes) {
					adds(t, v, 0, s, n, api.ErrName)
				}
			}
			for _, n := range wrongInodes {
				adds(t, v, 0, "new", n, api.ErrArg)
				adds(t, v, 0, "a", n, api.ErrArg)
			}
			for _, x := range l.entries() {
				adds(t, v, 0, x.Name, x.Inode, api.ErrThere)
				adds(t, v, 0, x.Name, 63-x.Inode, api.ErrThere)
			}
		})
	}
}

// Only the block of the new entry is written, and those that become the way to it.
func TestAddWritesWhatChanges(t *testing.T) {
	base := named(names(most)...)
	for _, x := range []struct {
		entries int
		want    []int
	}{
		{0, []int{0}}, {1, []int{0}}, {3, []int{0}}, {4, []int{1}}, {5, []int{1}}, {31, []int{7}},
		{32, []int{8, 9}}, {33, []int{9}}, {35, []int{9}}, {36, []int{8, 10}}, {37, []int{10}}, {159, []int{40}},
		{160, []int{41, 42, 43}}, {161, []int{43}}, {164, []int{42, 44}}, {167, []int{44}}, {236, []int{42, 62}}, {239, []int{62}},
	} {
		v := withBytes(t, whole, base[:x.entries].bytes())
		written(t, v, func() { adds(t, v, 0, "new", 1, api.OK) }, x.want...)
	}
	// A free entry is in a block that is there.
	for at := range most - 1 {
		l := slices.Clone(base)
		l[at] = api.Entry{}
		v := withBytes(t, whole, l.bytes())
		blocks := leaf(t, v, 0)
		written(t, v, func() { adds(t, v, 0, "new", 1, api.OK) }, blocks[at/inner])
	}
}

// leaf returns the blocks of an inode that has all of them, without those of pointers.
func leaf(t *testing.T, v *volume.Volume, i int) []int {
	t.Helper()
	l, e := file.Blocks(v, i)
	if e != api.OK {
		t.Fatalf("Blocks of %d: error %d", i, e)
	}
	if len(l) > 41 {
		l = slices.Delete(l, 41, 43)
	}
	if len(l) > 8 {
		l = slices.Delete(l, 8, 9)
	}
	return l
}

// A free entry may be in a block that is not there; it is allocated with the label of the directory.
func TestAddIntoAMissingBlock(t *testing.T) {
	for _, x := range []struct{ at, last, need int }{{0, 9, 1}, {5, 40, 1}, {40, 100, 1}, {40, 200, 2}, {170, 239, 1}} {
		v := withDir(t, roomy)
		l := make(table, x.last+1)
		for k := range l {
			l[k] = api.Entry{Name: name(k), Inode: k % 64}
			// The block of this entry is not written.
			if k/inner == x.at/inner || x.need == 2 && k >= direct && k < double {
				l[k] = api.Entry{}
				continue
			}
			writes(t, v, 0, k*per, l[k:k+1].bytes())
		}
		n := inUse(v)
		begins(t, v)
		adds(t, v, 0, "new", 5, api.OK)
		at := l.place("")
		l[at] = api.Entry{Name: "new", Inode: 5}
		holds(t, v, 0, l)
		if k := inUse(v); k != n+x.need {
			t.Errorf("blocks in use: got %d, want %d and %d", k, n, x.need)
		}
	}
}

// P17.2: Remove

// The first, a middle and the last entry, and each other one.
func TestRemoveOfEachEntry(t *testing.T) {
	for _, n := range []int{1, 2, 3, 4, 5, 8, 9, direct, direct + 1, double + 1} {
		base := named(names(n)...)
		for at := range base {
			v := withBytes(t, roomy, base.bytes())
			removes(t, v, 0, base[at].Name, api.OK)
			l := slices.Clone(base)
			l[at] = api.Entry{}
			if at == n-1 {
				l = l[:at]
			}
			holds(t, v, 0, l)
			leaves(t, v, func() { removes(t, v, 0, base[at].Name, api.ErrNone) })
		}
	}
}

// Free entries at the end go with the last entry, and with any other one.
func TestRemoveAheadOfFreeEntries(t *testing.T) {
	for _, x := range []struct {
		l    table
		name string
		want table
	}{
		{named("a", "", "b"), "b", named("a")},
		{named("a", "b", ""), "b", named("a")},
		{named("a", "b", "", "", "", ""), "b", named("a")},
		{named("a", "b", "", "", "", ""), "a", named("", "b")},
		{named("", "", "", "", "", "a"), "a", nil},
		{named("a", "", "", "", "", "", "", "", "b"), "b", named("a")},
		{named("a", "", "", "", "", "", "", "", "b", ""), "a", named("", "", "", "", "", "", "", "", "b")},
		{named("a", "b", "c", "d", "", "", "", "", "e"), "e", named("a", "b", "c", "d")},
		{named("a", "b", "c", "d", "e", "", "", "", ""), "d", named("a", "b", "c", "", "e")},
		{named("", "a", "", "b", ""), "a", named("", "", "", "b")},
		{named("", "a", "", "b", ""), "b", named("", "a")},
	} {
		v := withBytes(t, roomy, x.l.bytes())
		leaves(t, v, func() { removes(t, v, 0, "x", api.ErrNone) })
		removes(t, v, 0, x.name, api.OK)
		holds(t, v, 0, x.want)
	}
}

// Whatever the order, nothing remains of a directory: neither a byte nor a block.
func TestRemoveOfAllInAnyOrder(t *testing.T) {
	for _, n := range []int{1, 2, 5, 9, direct + 2, double + 6} {
		for seed := range 5 {
			x := dice(seed)
			l := named(names(n)...)
			v := withBytes(t, roomy, l.bytes())
			order := names(n)
			for k := range order {
				o := k + x.under(n-k)
				if seed < 2 {
					o = k
				}
				order[k], order[o] = order[o], order[k]
			}
			if seed == 1 {
				slices.Reverse(order)
			}
			for _, s := range order {
				removes(t, v, 0, s, api.OK)
				l[l.place(s)] = api.Entry{}
				l = l.trimmed()
				holds(t, v, 0, l)
				finds(t, v, 0, s, 0, api.ErrNone)
			}
			if k := inUse(v); k != 0 || len(l) != 0 {
				t.Fatalf("%d blocks are in use, %v remain", k, l)
			}
		}
	}
}

// A name that is not there is not removed, whether it is valid or not.
func TestRemoveOfNamesThatAreNotThere(t *testing.T) {
	for _, l := range []table{nil, named("a"), named("", "a", "", "b"), named(names(most)...)} {
		v := withBytes(t, roomy, l.bytes())
		leaves(t, v, func() {
			for _, s := range slices.Concat(wrongNames, oddNames, []string{"A", "aa", "n", "n0", "a "}) {
				removes(t, v, 0, s, api.ErrNone)
			}
		})
	}
}

// Only the block of the entry is written, and what goes at the end.
func TestRemoveWritesWhatChanges(t *testing.T) {
	base := named(names(most)...)
	v := withBytes(t, whole, base.bytes())
	blocks := leaf(t, v, 0)
	for at := range most - 1 {
		l := slices.Clone(base)
		v := withBytes(t, whole, l.bytes())
		written(t, v, func() { removes(t, v, 0, l[at].Name, api.OK) }, blocks[at/inner])
	}
	for _, x := range []struct {
		entries int
		want    []int
	}{
		{1, []int{0}}, {2, []int{0}}, {4, []int{0}}, {5, []int{1}}, {6, []int{1}}, {32, []int{7}}, {33, []int{8, 9}}, {34, []int{9}},
		{37, []int{8, 10}}, {160, []int{40}}, {161, []int{41, 42, 43}}, {162, []int{43}}, {165, []int{42, 44}}, {240, []int{62}}, {237, []int{42, 62}},
	} {
		v := withBytes(t, whole, base[:x.entries].bytes())
		written(t, v, func() { removes(t, v, 0, name(x.entries-1), api.OK) }, x.want...)
	}
}

// A block ahead of what goes is not written, though it is the last one then and has free entries at its end.
func TestRemoveLeavesTheBlocksAhead(t *testing.T) {
	for _, x := range []struct {
		l    table
		name string
		want []int
	}{
		{named("a", "", "", "", "b"), "b", []int{1}},
		{named("a", "b", "", "", "c", "d"), "c", []int{1}},
		{named("a", "b", "c", "d", "e"), "e", []int{1}},
		{named("a", "b", "c", "d", "e", "", "", "", "f"), "f", []int{2}},
		{named("a", "", "", "", "b", "", "", "", "c", "", "", "", "d"), "d", []int{3}},
		{named("a", "b", "", ""), "b", []int{0}},
		{named("a", "b", "", ""), "a", []int{0}},
		{named("a", "b", "c", "d", "e", "f", "g", "h", ""), "a", []int{0}},
		{named("a", "b", "c", "d", "e", "", ""), "a", []int{0}},
		{named("a", "b", "c", "d", "e", "", ""), "e", []int{1}},
	} {
		v := withDir(t, whole)
		for k, e := range x.l {
			if e.Name != "" {
				writes(t, v, 0, k*per, x.l[k:k+1].bytes())
			}
		}
		cuts(t, v, 0, len(x.l)*per)
		written(t, v, func() { removes(t, v, 0, x.name, api.OK) }, x.want...)
		x.l[x.l.place(x.name)] = api.Entry{}
		holds(t, v, 0, x.l.trimmed())
	}
}

// The blocks behind the last entry are freed, also if they were written, and those of pointers with them.
func TestRemoveFreesBlocks(t *testing.T) {
	for _, first := range []int{0, 3, 4, 31, 32, 100, 159, 160} {
		for _, last := range []int{4, 31, 32, 36, 159, 160, 200, 239} {
			if last <= first {
				continue
			}
			l := make(table, last+1)
			l[first], l[last] = api.Entry{Name: "a", Inode: 1}, api.Entry{Name: "b", Inode: 2}
			v := withBytes(t, whole, l.bytes())
			removes(t, v, 0, "b", api.OK)
			holds(t, v, 0, l[:first+1])
			want := withBytes(t, whole, l[:first+1].bytes())
			blocks, _ := file.Blocks(want, 0)
			consists(t, v, 0, blocks...)
			if n := inUse(v); n != len(blocks) {
				t.Fatalf("blocks in use: got %d, want %v", n, blocks)
			}
		}
	}
}

// P17.2: Replace

// An entry at any position gets another inode, and keeps its position.
func TestReplaceOfEachEntry(t *testing.T) {
	for _, n := range []int{1, 2, 4, 5, 9, direct + 1, double + 1} {
		for gap := 0; gap < 3 && gap < n; gap++ {
			l := named(names(n)...)
			if gap > 0 {
				l[(gap-1)*(n-2)] = api.Entry{}
			}
			v := withBytes(t, roomy, l.bytes())
			for at, x := range l {
				if x.Name == "" {
					continue
				}
				replaces(t, v, 0, x.Name, 63-x.Inode, x.Inode, api.OK)
				l[at].Inode = 63 - x.Inode
				holds(t, v, 0, l)
				finds(t, v, 0, x.Name, 63-x.Inode, api.OK)
			}
		}
	}
}

// Each inode that an entry may have can become each other one, and itself.
func TestReplaceByEachInode(t *testing.T) {
	v := withBytes(t, roomy, named("a", "b", "c").bytes())
	was := 2
	for k := range 64 {
		for _, n := range []int{k, 0, k, 63, k, k} {
			replaces(t, v, 0, "b", n, was, api.OK)
			was = n
		}
	}
	holds(t, v, 0, table{{Name: "a", Inode: 1}, {Name: "b", Inode: 63}, {Name: "c", Inode: 3}})
}

// Free entries at the end stay.
func TestReplaceKeepsTheSize(t *testing.T) {
	for _, l := range []table{named("a", ""), named("", "a", "", "", "", ""), named("a", "b", "c", "d", "", "", "", "", ""), append(named("a"), make(table, most-1)...)} {
		v := withBytes(t, roomy, l.bytes())
		at := l.place("a")
		replaces(t, v, 0, "a", 40, l[at].Inode, api.OK)
		l[at].Inode = 40
		holds(t, v, 0, l)
	}
}

// The first error is that of the name, then that of the inode, then that of a name that is not there.
func TestReplaceOfWrongEntries(t *testing.T) {
	for _, l := range []table{nil, named("a"), named("", "a", "b", ""), named(names(most)...)} {
		v := withBytes(t, roomy, l.bytes())
		leaves(t, v, func() {
			for _, s := range wrongNames {
				for _, n := range slices.Concat([]int{0, 1, 63}, wrongInodes) {
					replaces(t, v, 0, s, n, 0, api.ErrName)
				}
			}
			for _, n := range wrongInodes {
				replaces(t, v, 0, "new", n, 0, api.ErrArg)
				replaces(t, v, 0, "a", n, 0, api.ErrArg)
			}
			for _, s := range slices.Concat(oddNames, []string{"A", "aa", "n", "n0", "a "}) {
				replaces(t, v, 0, s, 5, 0, api.ErrNone)
			}
		})
	}
}

// Only the block of the entry is written, and nothing if it has that inode already.
func TestReplaceWritesWhatChanges(t *testing.T) {
	l := named(names(most)...)
	v := withBytes(t, whole, l.bytes())
	blocks := leaf(t, v, 0)
	for at, x := range l {
		written(t, v, func() { replaces(t, v, 0, x.Name, x.Inode, x.Inode, api.OK) })
		written(t, v, func() { replaces(t, v, 0, x.Name, 63-x.Inode, x.Inode, api.OK) }, blocks[at/inner])
	}
}

// P17.2 and P17.3: what else stays

// Only Size and the pointers of the inode change.
func TestChangesKeepTheInode(t *testing.T) {
	v, _ := mounted(t, roomy)
	makes(t, v, api.KindDir, 7)
	i := makes(t, v, api.KindDir, 9)
	n, _, _ := v.Inode(i)
	n.Links = 65535
	v.Set(i, n)
	for k := range 40 {
		adds(t, v, i, name(k), k, api.OK)
	}
	removes(t, v, i, name(39), api.OK)
	removes(t, v, i, name(3), api.OK)
	replaces(t, v, i, name(7), 3, 7, api.OK)
	m, a, e := v.Inode(i)
	if m.Kind != api.KindDir || m.Row != n.Row || m.Links != 65535 || m.Size != 39*per || a != 9 || e != api.OK {
		t.Errorf("got %v, label %d, error %d", m, a, e)
	}
}

// Other directories and files stay, those with the same names among them.
func TestOtherInodesStay(t *testing.T) {
	v, _ := mounted(t, roomy)
	want := make([]table, 6)
	for i := range want {
		makes(t, v, api.KindDir, api.Label(i/2))
		want[i] = named(names(10 * i)...)
		writes(t, v, i, 0, want[i].bytes())
	}
	text := []byte(strings.Repeat("moat", 100))
	writes(t, v, makes(t, v, api.KindFile, 1), 0, text)
	all := func() {
		t.Helper()
		for i := range want {
			holds(t, v, i, want[i])
		}
		has(t, v, 6, text)
	}
	for i := range want {
		for k := 50; k < 60; k++ {
			adds(t, v, i, name(k), k, api.OK)
			want[i] = append(want[i], api.Entry{Name: name(k), Inode: k})
		}
		all()
		replaces(t, v, i, name(55), 9, 55, api.OK)
		want[i][want[i].place(name(55))].Inode = 9
		all()
		removes(t, v, i, name(50), api.OK)
		want[i][want[i].place(name(50))] = api.Entry{}
		all()
	}
	for i := range want {
		for _, x := range want[i].entries() {
			removes(t, v, i, x.Name, api.OK)
		}
		want[i] = nil
		all()
	}
}

// Blocks are allocated with the label of their directory, in groups of this label.
func TestBlocksHaveTheLabel(t *testing.T) {
	v, _ := mounted(t, api.Geo{Journal: 300, Inodes: 4, Groups: 8, PerGroup: 2})
	for _, a := range []api.Label{5, 0, 65535} {
		makes(t, v, api.KindDir, a)
	}
	for i := range 3 {
		for k := range 5 {
			adds(t, v, i, name(k), k, api.OK)
		}
	}
	consists(t, v, 0, 0, 1)
	consists(t, v, 1, 2, 3)
	consists(t, v, 2, 4, 5)
	for k := 5; k < 9; k++ {
		adds(t, v, 1, name(k), k, api.OK)
	}
	consists(t, v, 1, 2, 3, 6)
	if l := v.Meta().Owners; !slices.Equal(l, []int{1, 2, 3, 2, 0, 0, 0, 0}) {
		t.Errorf("Owners: got %v", l)
	}
}

// What is changed is there when the volume is mounted again, and not otherwise.
func TestChangesStay(t *testing.T) {
	v, d := mounted(t, roomy)
	makes(t, v, api.KindDir, 3)
	l := named(names(double + 1)...)
	for _, x := range l {
		begins(t, v)
		adds(t, v, 0, x.Name, x.Inode, api.OK)
	}
	syncs(t, v)
	v = mounts(t, d)
	holds(t, v, 0, l)
	removes(t, v, 0, l[double].Name, api.OK)
	removes(t, v, 0, l[9].Name, api.OK)
	replaces(t, v, 0, l[100].Name, 0, l[100].Inode, api.OK)
	holds(t, mounts(t, d), 0, l)
	syncs(t, v)
	l = l[:double]
	l[9], l[100].Inode = api.Entry{}, 0
	holds(t, mounts(t, d), 0, l)
}

// P17.3: the names are those that were added and not removed, whatever else is done.
func TestNames(t *testing.T) {
	for seed := range 10 {
		x := dice(seed)
		v := withDir(t, whole)
		want := map[string]int{}
		for range 600 {
			s, n := name(x.under(20+30*seed)), x.under(64)
			was, is := want[s]
			switch k := x.under(8); {
			case k < 4 && is:
				adds(t, v, 0, s, n, api.ErrThere)
			case k < 4 && len(want) == most:
				adds(t, v, 0, s, n, api.ErrFull)
			case k < 4:
				adds(t, v, 0, s, n, api.OK)
				want[s] = n
			case k < 6 && is:
				removes(t, v, 0, s, api.OK)
				delete(want, s)
			case k < 6:
				removes(t, v, 0, s, api.ErrNone)
			case is:
				replaces(t, v, 0, s, n, was, api.OK)
				want[s] = n
			default:
				replaces(t, v, 0, s, n, 0, api.ErrNone)
			}
			l, e := dir.List(v, 0)
			if len(l) != len(want) || e != api.OK {
				t.Fatalf("List: got %v, error %d; want %v", l, e, want)
			}
			for _, x := range l {
				if n, is := want[x.Name]; !is || n != x.Inode {
					t.Fatalf("List: got %v; want %v", l, want)
				}
			}
		}
	}
}

// In whatever order names are added, the same ones are there.
func TestNamesInAnyOrder(t *testing.T) {
	all := []string{"a", "b", "c", "d", "e", "f"}
	for seed := range 50 {
		x := dice(seed)
		v := withDir(t, roomy)
		order := slices.Clone(all)
		for k := range order {
			o := k + x.under(len(order)-k)
			order[k], order[o] = order[o], order[k]
		}
		for k, s := range order {
			adds(t, v, 0, s, int(s[0]-'a'), api.OK)
			if k > 2 {
				removes(t, v, 0, order[k-3], api.OK)
				adds(t, v, 0, order[k-3], int(order[k-3][0]-'a'), api.OK)
			}
		}
		for k, s := range all {
			finds(t, v, 0, s, k, api.OK)
		}
		l, _ := dir.List(v, 0)
		if len(l) != len(all) {
			t.Fatalf("List: got %v", l)
		}
	}
}
