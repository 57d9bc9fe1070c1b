package proc_test

import (
	"math"
	"testing"

	"moat/api"
	"moat/proc"
)

// A view is all that a table tells, of processes that do not exist too.
type view struct {
	labels   [9]api.Label
	wrong    [9]api.Errno
	files    [9][9]api.Fd
	missing  [9][9]api.Errno
	holds    [65]int
	elseHeld int
}

func viewOf(x *proc.Table) view {
	var v view
	for p := range v.labels {
		v.labels[p], v.wrong[p] = x.Label(p)
		for fd := range v.files[p] {
			v.files[p][fd], v.missing[p][fd] = x.Fd(p, fd)
		}
	}
	for i := range v.holds {
		v.holds[i] = x.Holds(i)
	}
	for _, i := range wrongInodes {
		v.elseHeld += x.Holds(i)
	}
	return v
}

// stays makes sure that a call leaves all as it is.
func stays(t *testing.T, x *proc.Table, call string, do func()) {
	t.Helper()
	was := viewOf(x)
	do()
	if viewOf(x) != was {
		t.Errorf("%s changed the table", call)
	}
}

var (
	extremes    = []int{-1, -2, -8, -64, math.MinInt, math.MinInt + 1, math.MinInt32, math.MaxInt, math.MaxInt - 1, 1 << 31, 1 << 32, 1<<32 + 1, -1 << 32, 1 << 16, 1<<16 + 1}
	wrongFds    = append([]int{8, 9, 15, 16, 63, 64, 256, 257}, extremes...)
	wrongInodes = append([]int{64, 65, 127, 128, 256, 257, 512}, extremes...)
	wrongPlaces = append([]int{3841, 3842, 4096, 7680, 1<<16 + 3840}, extremes...)
)

// wrongProcesses are those that a table of n has not.
func wrongProcesses(n int) []int {
	l := []int{n, n + 1, -n, 2 * n, 8, 9, 256, 257}
	return append(l, extremes...)
}

func newTable(t *testing.T, n int) *proc.Table {
	t.Helper()
	x, e := proc.New(n)
	if x == nil || e != api.OK {
		t.Fatalf("New of %d: error %d", n, e)
	}
	return x
}

func labels(t *testing.T, x *proc.Table, p int, want api.Label, wrong api.Errno) {
	t.Helper()
	if a, e := x.Label(p); a != want || e != wrong {
		t.Errorf("Label of process %d: got %d, error %d; want %d, error %d", p, a, e, want, wrong)
	}
}

func raises(t *testing.T, x *proc.Table, p int, a api.Label, wrong api.Errno) {
	t.Helper()
	if e := x.Raise(p, a); e != wrong {
		t.Errorf("Raise of process %d to %d: error %d, want %d", p, a, e, wrong)
	}
}

func opens(t *testing.T, x *proc.Table, p, inode, want int, wrong api.Errno) {
	t.Helper()
	if fd, e := x.Open(p, inode); fd != want || e != wrong {
		t.Errorf("Open of inode %d by process %d: got %d, error %d; want %d, error %d", inode, p, fd, e, want, wrong)
	}
}

func closes(t *testing.T, x *proc.Table, p, fd, want int, wrong api.Errno) {
	t.Helper()
	if i, e := x.Close(p, fd); i != want || e != wrong {
		t.Errorf("Close of %d by process %d: got %d, error %d; want %d, error %d", fd, p, i, e, want, wrong)
	}
}

func shows(t *testing.T, x *proc.Table, p, fd int, want api.Fd, wrong api.Errno) {
	t.Helper()
	if f, e := x.Fd(p, fd); f != want || e != wrong {
		t.Errorf("Fd of %d of process %d: got %v, error %d; want %v, error %d", fd, p, f, e, want, wrong)
	}
}

func moves(t *testing.T, x *proc.Table, p, fd, at int, wrong api.Errno) {
	t.Helper()
	if e := x.Move(p, fd, at); e != wrong {
		t.Errorf("Move of %d by process %d to %d: error %d, want %d", fd, p, at, e, wrong)
	}
}

func holds(t *testing.T, x *proc.Table, inode, want int) {
	t.Helper()
	if n := x.Holds(inode); n != want {
		t.Errorf("Holds of %d: got %d, want %d", inode, n, want)
	}
}

// filled returns a table of n processes, each of which has as many files open: 8 p + fd in the descriptor fd of p, at 100 p + fd.
func filled(t *testing.T, n, files int) *proc.Table {
	t.Helper()
	x := newTable(t, n)
	for p := range n {
		raises(t, x, p, api.Label(1<<p|1<<15), api.OK)
		for fd := range files {
			opens(t, x, p, 8*p+fd, fd, api.OK)
			moves(t, x, p, fd, 100*p+fd, api.OK)
		}
	}
	return x
}

// The chapter's example.
func TestExample(t *testing.T) {
	x := newTable(t, 1)
	opens(t, x, 0, 5, 0, api.OK)
	opens(t, x, 0, 6, 1, api.OK)
	closes(t, x, 0, 0, 5, api.OK)
	opens(t, x, 0, 7, 0, api.OK)
	holds(t, x, 6, 1)
}

// P19.1

func TestNewOfEachNumber(t *testing.T) {
	for n := 1; n <= 8; n++ {
		x := newTable(t, n)
		for p := range 9 {
			wrong, missing := api.OK, api.ErrNone
			if p >= n {
				wrong, missing = api.ErrArg, api.ErrArg
			}
			labels(t, x, p, 0, wrong)
			for fd := range 9 {
				shows(t, x, p, fd, api.Fd{}, missing)
			}
		}
		for i := range 65 {
			holds(t, x, i, 0)
		}
	}
}

func TestNewRefusesNumbers(t *testing.T) {
	for _, n := range append([]int{0, 9, 10, 16, 64, 256, 257}, extremes...) {
		if x, e := proc.New(n); x != nil || e != api.ErrArg {
			t.Errorf("New of %d: got %v, error %d", n, x != nil, e)
		}
	}
}

func TestNewTablesAreIndependent(t *testing.T) {
	x, other := newTable(t, 2), newTable(t, 2)
	stays(t, other, "a call on another table", func() {
		opens(t, x, 1, 5, 0, api.OK)
		moves(t, x, 1, 0, 9, api.OK)
		raises(t, x, 1, 3, api.OK)
	})
	opens(t, other, 1, 6, 0, api.OK)
	shows(t, x, 1, 0, api.Fd{Inode: 5, At: 9}, api.OK)
	holds(t, x, 6, 0)
}

// Whether there is a process is asked ahead of all else, whatever the other arguments are, and whether files are open or not.
func TestNoSuchProcess(t *testing.T) {
	for n := 1; n <= 8; n++ {
		for _, files := range []int{0, 1, 8} {
			x := filled(t, n, files)
			for _, p := range wrongProcesses(n) {
				stays(t, x, "a call without a process", func() { refusesAll(t, x, p, api.ErrArg) })
			}
		}
	}
}

// refusesAll makes each call that needs a process, with right arguments and with wrong ones.
func refusesAll(t *testing.T, x *proc.Table, p int, wrong api.Errno) {
	t.Helper()
	labels(t, x, p, 0, wrong)
	for _, a := range []api.Label{0, 1, 1 << 15, 65535} {
		raises(t, x, p, a, wrong)
	}
	for _, i := range []int{0, 1, 63, 64, -1, math.MaxInt} {
		opens(t, x, p, i, 0, wrong)
	}
	for _, fd := range []int{0, 1, 7, 8, -1, math.MinInt} {
		shows(t, x, p, fd, api.Fd{}, wrong)
		for _, at := range []int{0, 1, 3840, 3841, -1, math.MaxInt} {
			moves(t, x, p, fd, at, wrong)
		}
		closes(t, x, p, fd, 0, wrong)
	}
}

func TestZeroTableHasNoProcesses(t *testing.T) {
	var x proc.Table
	for _, p := range append([]int{0, 1, 7, 8}, extremes...) {
		refusesAll(t, &x, p, api.ErrArg)
	}
	for _, i := range append([]int{0, 1, 63}, wrongInodes...) {
		holds(t, &x, i, 0)
	}
}

func TestLabelAndRaiseOfEachProcess(t *testing.T) {
	for n := 1; n <= 8; n++ {
		x := newTable(t, n)
		var want [8]api.Label
		for round := range 2 {
			for p := range n {
				want[p] |= api.Label(1<<p | 1<<(8+p*round))
				raises(t, x, p, want[p], api.OK)
				for other := range n {
					labels(t, x, other, want[other], api.OK)
				}
			}
		}
		raises(t, x, n, 0, api.ErrArg)
		raises(t, x, -1, 0, api.ErrArg)
	}
}

// Raise from each label: to itself, to all categories, to none, to the other ones, to its first one, and to each label that has one category more or one less, or two others.
func TestRaiseFromEachLabel(t *testing.T) {
	for n := range 65536 {
		a := api.Label(n)
		to := []api.Label{a, 65535, 0, ^a, a & -a}
		for k := range 16 {
			to = append(to, a^1<<k, a^3<<k)
		}
		for _, b := range to {
			x := newTable(t, 1)
			raises(t, x, 0, a, api.OK)
			if flows(a, b) {
				raises(t, x, 0, b, api.OK)
				labels(t, x, 0, b, api.OK)
			} else {
				raises(t, x, 0, b, api.ErrFlow)
				labels(t, x, 0, a, api.OK)
			}
		}
		if t.Failed() {
			t.Fatalf("label %d", a)
		}
	}
}

// flows reports whether each category of a is one of b.
func flows(a, b api.Label) bool {
	for k := range 16 {
		if a>>k&1 > b>>k&1 {
			return false
		}
	}
	return true
}

func TestRaiseStepByStep(t *testing.T) {
	x := newTable(t, 2)
	raises(t, x, 0, 0, api.OK) // the same
	raises(t, x, 0, 2, api.OK) // one more
	raises(t, x, 0, 2, api.OK) // the same
	raises(t, x, 0, 0, api.ErrFlow)
	raises(t, x, 0, 8, api.ErrFlow)
	labels(t, x, 0, 2, api.OK)
	raises(t, x, 0, 14, api.OK)
	raises(t, x, 0, 10, api.ErrFlow)
	raises(t, x, 0, 13, api.ErrFlow)
	raises(t, x, 0, 1<<15|14, api.OK)
	raises(t, x, 0, 14, api.ErrFlow)
	raises(t, x, 0, 65535, api.OK)
	raises(t, x, 0, 65534, api.ErrFlow)
	raises(t, x, 0, 32767, api.ErrFlow)
	labels(t, x, 0, 65535, api.OK)
	labels(t, x, 1, 0, api.OK)
}

// A label has nothing to do with what is open.
func TestRaiseKeepsOpenFiles(t *testing.T) {
	x := filled(t, 3, 5)
	was := viewOf(x)
	raises(t, x, 1, 65535, api.OK)
	is := viewOf(x)
	was.labels[1] = 65535
	if is != was {
		t.Errorf("got %v, want %v", is, was)
	}
}

// A label does not go to another process with its files.
func TestOpenCloseAndMoveKeepLabels(t *testing.T) {
	x := filled(t, 3, 2)
	was := viewOf(x).labels
	opens(t, x, 1, 63, 2, api.OK)
	moves(t, x, 1, 2, 3840, api.OK)
	closes(t, x, 1, 0, 8, api.OK)
	if is := viewOf(x).labels; is != was {
		t.Errorf("got %v, want %v", is, was)
	}
}

// P19.2

func TestOpenOfEachInode(t *testing.T) {
	for i := range 64 {
		x := newTable(t, 3)
		opens(t, x, 1, i, 0, api.OK)
		shows(t, x, 1, 0, api.Fd{Inode: i}, api.OK)
		for other := range 64 {
			want := 0
			if other == i {
				want = 1
			}
			holds(t, x, other, want)
		}
		closes(t, x, 1, 0, i, api.OK)
		holds(t, x, i, 0)
	}
}

// An inode that may not be is refused with each number of open files, ahead of there being too many.
func TestOpenRefusesInodes(t *testing.T) {
	for files := range 9 {
		x := filled(t, 2, files)
		for _, i := range wrongInodes {
			for p := range 2 {
				stays(t, x, "Open of a wrong inode", func() { opens(t, x, p, i, 0, api.ErrArg) })
			}
		}
		opens(t, x, 1, 63, files%8, [2]api.Errno{api.OK, api.ErrFull}[files/8])
		opens(t, x, 1, 64, 0, api.ErrArg)
	}
}

func TestOpenOfTooMany(t *testing.T) {
	for n := 1; n <= 8; n++ {
		x := newTable(t, n)
		for p := range n {
			for fd := range 8 {
				opens(t, x, p, 63-fd, fd, api.OK)
			}
			for _, i := range []int{0, 56, 63} {
				stays(t, x, "Open of one too many", func() { opens(t, x, p, i, 0, api.ErrFull) })
			}
		}
		// One place is enough again, and only for that process.
		closes(t, x, n-1, 7, 56, api.OK)
		for p := range n - 1 {
			opens(t, x, p, 1, 0, api.ErrFull)
		}
		opens(t, x, n-1, 1, 7, api.OK)
		opens(t, x, n-1, 2, 0, api.ErrFull)
	}
}

// Whichever descriptors are closed, in whichever order: the smallest ones are opened first.
func TestOpenTakesTheSmallestDescriptor(t *testing.T) {
	for set := range 256 {
		for _, down := range []bool{false, true} {
			x := filled(t, 2, 8)
			for n := range 8 {
				fd := n
				if down {
					fd = 7 - n
				}
				if set>>fd&1 == 1 {
					closes(t, x, 1, fd, 8+fd, api.OK)
				}
			}
			for fd := range 8 {
				if set>>fd&1 == 1 {
					opens(t, x, 1, 40+fd, fd, api.OK)
					shows(t, x, 1, fd, api.Fd{Inode: 40 + fd}, api.OK)
				}
			}
			opens(t, x, 1, 0, 0, api.ErrFull)
			for fd := range 8 {
				if set>>fd&1 == 0 {
					shows(t, x, 1, fd, api.Fd{Inode: 8 + fd, At: 100 + fd}, api.OK)
				}
			}
		}
	}
}

// Descriptors of one inode have offsets of their own, within one process and in several.
func TestOneInodeOpenSeveralTimes(t *testing.T) {
	x := newTable(t, 8)
	for p := range 8 {
		for fd := range 8 {
			opens(t, x, p, 9, fd, api.OK)
			moves(t, x, p, fd, 10*p+fd+1, api.OK)
			holds(t, x, 9, 8*p+fd+1)
		}
	}
	for p := range 8 {
		for fd := range 8 {
			shows(t, x, p, fd, api.Fd{Inode: 9, At: 10*p + fd + 1}, api.OK)
		}
	}
	closes(t, x, 3, 4, 9, api.OK)
	holds(t, x, 9, 63)
	shows(t, x, 3, 3, api.Fd{Inode: 9, At: 34}, api.OK)
	shows(t, x, 3, 5, api.Fd{Inode: 9, At: 36}, api.OK)
}

func TestCloseOfEachDescriptor(t *testing.T) {
	for p := range 8 {
		for fd := range 8 {
			x := filled(t, 8, 8)
			was := viewOf(x)
			closes(t, x, p, fd, 8*p+fd, api.OK)
			was.files[p][fd], was.missing[p][fd], was.holds[8*p+fd] = api.Fd{}, api.ErrNone, 0
			if is := viewOf(x); is != was {
				t.Errorf("Close of %d by process %d: got %v, want %v", fd, p, is, was)
			}
			stays(t, x, "Close of what is closed", func() { closes(t, x, p, fd, 0, api.ErrNone) })
			moves(t, x, p, fd, 0, api.ErrNone)
		}
	}
}

func TestMoveOfEachDescriptor(t *testing.T) {
	for p := range 8 {
		for fd := range 8 {
			x := filled(t, 8, 8)
			was := viewOf(x)
			moves(t, x, p, fd, 2000+fd, api.OK)
			was.files[p][fd].At = 2000 + fd
			if is := viewOf(x); is != was {
				t.Errorf("Move of %d by process %d: got %v, want %v", fd, p, is, was)
			}
		}
	}
}

// What is not open is refused, whatever the offset is.
func TestNoSuchDescriptor(t *testing.T) {
	for files := range 9 {
		x := filled(t, 2, files)
		for p := range 2 {
			l := append([]int{}, wrongFds...)
			for fd := files; fd < 8; fd++ {
				l = append(l, fd)
			}
			for _, fd := range l {
				stays(t, x, "a call without a descriptor", func() { refusesFd(t, x, p, fd) })
			}
		}
	}
}

func refusesFd(t *testing.T, x *proc.Table, p, fd int) {
	t.Helper()
	shows(t, x, p, fd, api.Fd{}, api.ErrNone)
	for _, at := range append([]int{0, 1, 3840}, wrongPlaces...) {
		moves(t, x, p, fd, at, api.ErrNone)
	}
	closes(t, x, p, fd, 0, api.ErrNone)
}

// A descriptor of one process is none of another one.
func TestDescriptorsOfOthers(t *testing.T) {
	x := newTable(t, 3)
	for fd := range 3 {
		opens(t, x, 1, 20+fd, fd, api.OK)
	}
	for fd := range 3 {
		for _, p := range []int{0, 2} {
			stays(t, x, "a call with a descriptor of another process", func() { refusesFd(t, x, p, fd) })
		}
	}
}

func TestMoveToEachPlace(t *testing.T) {
	x := newTable(t, 1)
	opens(t, x, 0, 5, 0, api.OK)
	for at := range 3841 {
		moves(t, x, 0, 0, at, api.OK)
		shows(t, x, 0, 0, api.Fd{Inode: 5, At: at}, api.OK)
	}
	for at := 3840; at >= 0; at-- {
		moves(t, x, 0, 0, at, api.OK)
		shows(t, x, 0, 0, api.Fd{Inode: 5, At: at}, api.OK)
	}
}

func TestMoveRefusesPlaces(t *testing.T) {
	for _, is := range []int{0, 7, 3840} {
		x := newTable(t, 1)
		opens(t, x, 0, 5, 0, api.OK)
		moves(t, x, 0, 0, is, api.OK)
		for _, at := range wrongPlaces {
			stays(t, x, "Move to a wrong place", func() { moves(t, x, 0, 0, at, api.ErrArg) })
		}
		shows(t, x, 0, 0, api.Fd{Inode: 5, At: is}, api.OK)
	}
}

func TestOffsetOfWhatIsOpenedAgain(t *testing.T) {
	x := newTable(t, 1)
	for _, inode := range []int{5, 5, 6} {
		opens(t, x, 0, inode, 0, api.OK)
		shows(t, x, 0, 0, api.Fd{Inode: inode}, api.OK)
		moves(t, x, 0, 0, 3840, api.OK)
		shows(t, x, 0, 0, api.Fd{Inode: inode, At: 3840}, api.OK)
		closes(t, x, 0, 0, inode, api.OK)
		shows(t, x, 0, 0, api.Fd{}, api.ErrNone)
	}
}

// What Fd returned belongs to the caller.
func TestFdIsNotShared(t *testing.T) {
	x := newTable(t, 1)
	opens(t, x, 0, 5, 0, api.OK)
	f, _ := x.Fd(0, 0)
	moves(t, x, 0, 0, 9, api.OK)
	if f != (api.Fd{Inode: 5}) {
		t.Errorf("got %v", f)
	}
	f.Inode, f.At = 6, 10
	shows(t, x, 0, 0, api.Fd{Inode: 5, At: 9}, api.OK)
}

func TestHolds(t *testing.T) {
	x := newTable(t, 8)
	holds(t, x, 0, 0)
	for _, p := range []int{0, 7, 3, 7} {
		for _, i := range []int{0, 63, 5} {
			if _, e := x.Open(p, i); e != api.OK {
				t.Errorf("Open of %d by process %d: error %d", i, p, e)
			}
		}
	}
	opens(t, x, 5, 63, 0, api.OK)
	for i, want := range map[int]int{0: 4, 5: 4, 63: 5, 1: 0, 4: 0, 6: 0, 62: 0} {
		holds(t, x, i, want)
	}
	for _, i := range wrongInodes {
		holds(t, x, i, 0)
	}
	moves(t, x, 7, 0, 5, api.OK)
	closes(t, x, 7, 3, 0, api.OK)
	closes(t, x, 3, 0, 0, api.OK)
	closes(t, x, 5, 0, 63, api.OK)
	for i, want := range map[int]int{0: 2, 5: 4, 63: 4} {
		holds(t, x, i, want)
	}
}

func TestNilTable(t *testing.T) {
	var x *proc.Table
	for _, p := range append([]int{0, 1, 7, 8}, extremes...) {
		refusesAll(t, x, p, api.ErrNone)
	}
	for _, i := range append([]int{0, 1, 63}, wrongInodes...) {
		holds(t, x, i, 0)
	}
}
