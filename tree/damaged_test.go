package tree_test

import (
	"strconv"
	"testing"

	"moat/api"
	"moat/dir"
	"moat/tree"
	"moat/volume"
)

// tangled returns a volume with any entries in any directories: of themselves, of the root, of free inodes and of such as there are not.
func (x *dice) tangled(t *testing.T) *volume.Volume {
	t.Helper()
	v, d := mounted(t, api.Geo{Journal: 300, Inodes: 10, Groups: 8, PerGroup: 4})
	for range 5 + x.under(6) {
		v.Make(uint8(2-x.under(3)/2), []api.Label{0, 0, 0, 2}[x.under(4)])
	}
	for range x.under(3) {
		v.Unmake(x.under(10))
	}
	for i := range 10 {
		n, _, _ := v.Inode(i)
		n.Links = x.under(4)
		if x.under(12) == 0 {
			n.Direct[x.under(8)], n.Ind, n.Size = x.under(40), x.under(3), x.under(1000)
		}
		v.Set(i, n)
		for range x.under(6) {
			dir.Add(v, i, api.Entry{Name: "n" + strconv.Itoa(x.under(5)), Inode: x.under(12)})
		}
	}
	syncs(t, v)
	if x.under(8) == 0 {
		off(t, d)
	}
	return v
}

// crooked returns a path of a few names.
func (x *dice) crooked() string {
	path := ""
	for range 1 + x.under(4) {
		path += "/n" + strconv.Itoa(x.under(5))
	}
	return path
}

// Whatever there is on a volume, a call returns, and one that is refused changes nothing.
func TestTangledVolumes(t *testing.T) {
	did := 0
	for seed := range 6000 {
		x := dice(seed)
		v := x.tangled(t)
		for range 6 {
			path, to, a := x.crooked(), x.crooked(), []api.Label{0, 0, 0, 2}[x.under(4)]
			was := pictured(v)
			var e api.Errno
			switch x.under(11) {
			case 0, 1:
				_, e = tree.Create(v, a, path, uint8(1+x.under(2)), a)
			case 2:
				e = tree.Link(v, a, path, to)
			case 3:
				_, _, e = tree.Unlink(v, a, path)
			case 4:
				e = tree.Rmdir(v, a, path)
			case 5, 6, 7:
				_, _, e = tree.Rename(v, a, path, to)
			case 8:
				e = tree.Release(v, x.under(11))
			case 9:
				_, e = tree.Reap(v)
			default:
				e = tree.Init(v)
			}
			if e != api.OK {
				samePicture(t, pictured(v), was)
			} else {
				did++
			}
			was = pictured(v)
			tree.Walk(v, a, path)
			tree.Stat(v, a, path)
			tree.List(v, a, path)
			samePicture(t, pictured(v), was)
		}
		if t.Failed() {
			t.Fatalf("seed %d", seed)
		}
	}
	if did < 3000 {
		t.Errorf("%d calls did something", did)
	}
}
