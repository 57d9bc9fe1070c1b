package journal_test

import (
	"bytes"
	"encoding/binary"
	"math"
	"slices"
	"testing"

	"moat/api"
	"moat/disk"
	"moat/journal"
)

const all = math.MaxUint64

// patch makes a sector what it is after write c: bytes and a tag that no two writes have in common.
func patch(sector, c int) api.Patch {
	b := make([]byte, 64)
	for i := range b {
		b[i] = byte(i + 7*c)
	}
	b[63], b[62] = byte(c/256), byte(c)
	return api.Patch{Sector: sector, Bytes: b, Tag: api.Label(65535 - c)}
}

// A place of a journal: the sectors of its disk, its first one, and how many it has.
type place struct{ size, from, n int }

// smallPlaces are at the beginnings and the ends of disks, and between, with each kind of last group.
func smallPlaces() []place {
	return []place{
		{4, 0, 3}, {4, 1, 3}, {5, 1, 3}, {9, 2, 4}, {12, 2, 8},
		{50, 0, 16}, {50, 34, 16}, {30, 0, 17}, {60, 3, 18}, {40, 22, 18}, {60, 9, 19},
		{70, 20, 33}, {40, 0, 34}, {70, 35, 35}, {100, 30, 50},
	}
}

// greatPlaces are on greater disks, and greater themselves.
func greatPlaces() []place {
	return []place{{300, 1, 290}, {4096, 0, 3}, {4096, 4093, 3}, {4096, 1, 4095}, {4096, 0, 4095}, {4096, 2, 4000}}
}

// places are these, and those that leave no sector of the disk to others.
func places() []place {
	return slices.Concat(smallPlaces(), greatPlaces(), []place{{3, 0, 3}, {60, 0, 60}, {4096, 0, 4096}})
}

// sectors returns how many sectors n patches need, counted one by one.
func sectors(n int) int {
	k := 0
	for i := range n {
		if i%15 == 0 {
			k++
		}
		k++
	}
	return k
}

func (p place) room() int {
	k := 0
	for sectors(k+1) <= p.n-1 {
		k++
	}
	return k
}

// free returns the sectors of the disk that are not the journal's.
func (p place) free() []int {
	var l []int
	for i := range p.size {
		if i < p.from || i >= p.from+p.n {
			l = append(l, i)
		}
	}
	return l
}

// disk returns a disk whose sectors were written once each, safely, and which has a head of bytes 0.
func (p place) disk(t *testing.T) *disk.Disk {
	t.Helper()
	d, e := disk.New(p.size)
	if e != api.OK {
		t.Fatalf("a disk of %d sectors: error %d", p.size, e)
	}
	for i := range p.size {
		d.Write(patch(i, 10000+i))
	}
	d.Write(api.Patch{Sector: p.from, Bytes: make([]byte, 64)})
	d.Flush()
	return d
}

// patches returns n patches of sectors outside the journal, from the last to the first; where there are too few, some have the same sector. They are the writes c, c + 1, and so on.
func (p place) patches(n, c int) []api.Patch {
	free := p.free()
	if len(free) == 0 {
		return nil
	}
	var l []api.Patch
	for i := range n {
		l = append(l, patch(free[len(free)-1-i%len(free)], c+i))
	}
	return l
}

// counts are numbers of patches up to room: a few, and those around whole groups and around room.
func counts(room int) []int {
	l := []int{0, 1, 2, 3, 14, 15, 16, 17, 29, 30, 31, room - 1, room}
	l = slices.DeleteFunc(l, func(n int) bool { return n < 0 || n > room })
	slices.Sort(l)
	return slices.Compact(l)
}

// opens opens a journal that must be there.
func opens(t *testing.T, d *disk.Disk, p place, count int, seq uint64) *journal.Journal {
	t.Helper()
	j, n, e := journal.Open(d, p.from, p.n)
	if j == nil || n != count || e != api.OK {
		t.Fatalf("Open of %+v: got %v, %d, error %d; want %d patches", p, j != nil, n, e, count)
	}
	if j.Seq() != seq || j.Room() != p.room() {
		t.Errorf("Seq and Room: got %d and %d, want %d and %d", j.Seq(), j.Room(), seq, p.room())
	}
	return j
}

// fails opens a journal that must not be there.
func fails(t *testing.T, d *disk.Disk, p place, want api.Errno) {
	t.Helper()
	if j, n, e := journal.Open(d, p.from, p.n); j != nil || n != 0 || e != want {
		t.Errorf("Open of %+v: got %v, %d, error %d; want error %d", p, j != nil, n, e, want)
	}
}

// refuses makes sure that an Open fails and that the disk is as it was.
func refuses(t *testing.T, d *disk.Disk, p place, want api.Errno) {
	t.Helper()
	was := d.Copy()
	fails(t, d, p, want)
	sameDisk(t, d, was)
}

func commits(t *testing.T, j *journal.Journal, l []api.Patch, want api.Errno) {
	t.Helper()
	if e := j.Commit(l); e != want {
		t.Errorf("Commit of %d patches: error %d, want %d", len(l), e, want)
	}
}

// holds makes sure that a sector is what a patch makes it.
func holds(t *testing.T, d *disk.Disk, p api.Patch) {
	t.Helper()
	b, e1 := d.Read(p.Sector)
	a, e2 := d.Tag(p.Sector)
	if !bytes.Equal(b, p.Bytes) || a != p.Tag || e1 != api.OK || e2 != api.OK {
		t.Errorf("sector %d: got %v, tag %d, errors %d, %d; want %v, tag %d", p.Sector, b, a, e1, e2, p.Bytes, p.Tag)
	}
}

// puts writes patches, and makes them safe.
func puts(t *testing.T, d *disk.Disk, l ...api.Patch) {
	t.Helper()
	if e := perform(d, steps(l)); e != api.OK {
		t.Fatalf("writing to a disk: error %d", e)
	}
}

// off takes the power away without an operation that is done.
func off(t *testing.T, d *disk.Disk) {
	t.Helper()
	d.Cut(0)
	if d.Flush() != api.ErrDead || !d.Dead() {
		t.Fatal("the power is still on")
	}
}

// P7.1

// A head of bytes 0 is a journal of which nothing was ever written; its tag and the other sectors don't count.
func TestOpenOfBytes0(t *testing.T) {
	for _, p := range places() {
		d := p.disk(t)
		was := d.Copy()
		for range 2 {
			opens(t, d, p, 0, 0)
			sameDisk(t, d, was)
		}
		puts(t, d, api.Patch{Sector: p.from, Bytes: make([]byte, 64), Tag: 65535})
		was = d.Copy()
		// It makes no operation ahead of which the power could go off.
		d.Cut(0)
		opens(t, d, p, 0, 0)
		sameDisk(t, d, was)
	}
}

func seqs() []uint64 {
	return []uint64{0, 1, 2, 255, 256, 65535, 65536, 1<<32 - 1, 1 << 32, 0x0807060504030201, 1 << 63, all - 1, all}
}

// Each Seq and Count that a head may have; also with tags that are not 0, and with more stored than Count says.
func TestOpenOfEachSeqAndCount(t *testing.T) {
	for _, p := range []place{{5, 1, 3}, {12, 2, 8}, {70, 20, 33}, {70, 0, 34}, {100, 30, 50}} {
		for _, seq := range seqs() {
			for _, n := range counts(p.room()) {
				d := p.disk(t)
				l := p.patches(p.room(), 1)
				puts(t, d, storedAt(p.from, l)...)
				head := headAt(p.from, seq, n)[0]
				head.Tag = 12345
				puts(t, d, head)
				want := d.Copy()
				if n > 0 {
					perform(want, replaying(p.from, seq, l[:n]))
				}
				opens(t, d, p, n, seq)
				sameDisk(t, d, want)
				opensAgain(t, d, p, seq)
			}
			for _, n := range []int{p.room() + 1, p.room() + 2, 255, 256, 4096, 32768, 65535} {
				d := p.disk(t)
				puts(t, d, storedAt(p.from, p.patches(p.room(), 1))...)
				puts(t, d, headAt(p.from, seq, n)[0])
				refuses(t, d, p, api.ErrJournal)
			}
		}
	}
}

// The greatest journal has room for 3839 patches, of which each may be stored; one more may not.
func TestOpenOfTheGreatestJournal(t *testing.T) {
	p := place{4096, 0, 4096}
	d := p.disk(t)
	if r := opens(t, d, p, 0, 0).Room(); r != 3839 {
		t.Errorf("Room: got %d", r)
	}
	puts(t, d, headAt(0, 5, 0)[0])
	opens(t, d, p, 0, 5)
	puts(t, d, headAt(0, 5, 3840)[0])
	refuses(t, d, p, api.ErrJournal)
	// No sector is left over to which anything could be replayed.
	puts(t, d, headAt(0, 5, 3839)[0])
	refuses(t, d, p, api.ErrJournal)
}

func TestOpenRefusesPlaces(t *testing.T) {
	d := place{40, 0, 3}.disk(t)
	for _, at := range [][2]int{
		{0, 2}, {0, 1}, {0, 0}, {0, -1}, {0, -3}, {38, 2}, {40, 0}, {0, 41}, {0, 4096}, {0, 4097}, {0, 4098}, {0, 65536},
		{-1, 3}, {-1, 40}, {-1, 41}, {-3, 3}, {-40, 40}, {38, 3}, {39, 3}, {40, 3}, {41, 3}, {20, 21}, {1, 40}, {35, 6},
		{math.MaxInt, 3}, {math.MaxInt - 2, 3}, {math.MaxInt - 3, 3}, {math.MinInt, 3}, {math.MinInt, 40}, {0, math.MaxInt}, {0, math.MinInt},
		{math.MaxInt, math.MaxInt}, {math.MinInt, math.MinInt}, {math.MinInt, math.MaxInt}, {1, math.MaxInt}, {3, math.MinInt},
		{1 << 32, 3}, {0, 1<<32 + 3}, {40, -3}, {50, -20},
	} {
		p := place{40, at[0], at[1]}
		refuses(t, d, p, api.ErrArg)
		fails(t, nil, p, api.ErrNone)
	}
	fails(t, nil, place{40, 0, 3}, api.ErrNone)
	opens(t, d, place{40, 37, 3}.cleared(t, d), 0, 0)
	opens(t, d, place{40, 0, 40}, 0, 0)
}

// cleared gives a place a head of bytes 0.
func (p place) cleared(t *testing.T, d *disk.Disk) place {
	t.Helper()
	puts(t, d, api.Patch{Sector: p.from, Bytes: make([]byte, 64)})
	return p
}

func TestOpenRefusesDisksWithTooFewSectors(t *testing.T) {
	for size := range 3 {
		d, _ := disk.New(size)
		for n := range 5 {
			refuses(t, d, place{size, 0, n}, api.ErrArg)
		}
	}
	p := place{4096, 0, 4097}
	refuses(t, p.disk(t), p, api.ErrArg)
}

// With the power off there is ErrDead, whatever the head is; a wrong place comes first.
func TestOpenWithThePowerOff(t *testing.T) {
	p := place{12, 2, 8}
	for _, head := range [][]byte{make([]byte, 64), headBytes(3, 0), headBytes(3, 1), headBytes(3, 7), bytes.Repeat([]byte{9}, 64)} {
		d := p.disk(t)
		puts(t, d, storedAt(p.from, p.patches(6, 1))...)
		puts(t, d, api.Patch{Sector: p.from, Bytes: head})
		off(t, d)
		refuses(t, d, p, api.ErrDead)
		refuses(t, d, place{12, 2, 2}, api.ErrArg)
		refuses(t, d, place{12, 5, 8}, api.ErrArg)
		refuses(t, d, place{12, -1, 8}, api.ErrArg)
	}
}

// Each other byte in each place of a head makes it no head.
func TestOpenRefusesHeadsByEachByte(t *testing.T) {
	p := place{5, 1, 3}
	d := p.disk(t)
	for _, head := range [][]byte{make([]byte, 64), headBytes(0, 0), headBytes(1, 0), headBytes(0x0807060504030201, 1), headBytes(all, 0)} {
		for i := range head {
			for c := range 256 {
				b := slices.Clone(head)
				b[i] = byte(c)
				if b[i] == head[i] {
					continue
				}
				puts(t, d, api.Patch{Sector: p.from, Bytes: b})
				refuses(t, d, p, api.ErrJournal)
			}
		}
		if t.Failed() {
			t.FailNow()
		}
	}
}

// A head has bytes 0 behind its Count, also if its checksum is right, and a checksum of the sixty bytes, little-endian.
func TestOpenRefusesHeadsThatAreSealed(t *testing.T) {
	p := place{12, 2, 8}
	d := p.disk(t)
	puts(t, d, storedAt(p.from, p.patches(6, 1))...)
	for _, n := range []int{0, 2} {
		for i := 10; i < 60; i++ {
			b := headBytes(4, n)[:60]
			b[i] = 1
			puts(t, d, api.Patch{Sector: p.from, Bytes: sealed(b)})
			refuses(t, d, p, api.ErrJournal)
		}
		b := headBytes(4, n)
		slices.Reverse(b[60:])
		puts(t, d, api.Patch{Sector: p.from, Bytes: b})
		refuses(t, d, p, api.ErrJournal)
		b = append(sealed(headBytes(4, n)[:56]), 0, 0, 0, 0)
		puts(t, d, api.Patch{Sector: p.from, Bytes: b})
		refuses(t, d, p, api.ErrJournal)
		puts(t, d, api.Patch{Sector: p.from, Bytes: append(headBytes(4, n)[:60], 0, 0, 0, 0)})
		refuses(t, d, p, api.ErrJournal)
	}
	for _, c := range []byte{1, 9, 255} {
		puts(t, d, api.Patch{Sector: p.from, Bytes: bytes.Repeat([]byte{c}, 64)})
		refuses(t, d, p, api.ErrJournal)
	}
}

// wrongSectors are those that no patch may have: the journal's, and those that the disk does not have.
func (p place) wrongSectors() []int {
	l := []int{p.size, p.size + 1, 4096, 32768, 65535}
	for i := range p.n {
		l = append(l, p.from+i)
	}
	return l
}

// One stored patch with a wrong sector, wherever it is stored, refuses all of them.
func TestOpenRefusesStoredSectors(t *testing.T) {
	for _, p := range []place{{5, 1, 3}, {12, 0, 8}, {12, 4, 8}, {70, 20, 35}} {
		for _, wrong := range p.wrongSectors() {
			for i := range p.room() {
				d := p.disk(t)
				l := p.patches(p.room(), 1)
				l[i].Sector = wrong
				puts(t, d, storedAt(p.from, l)...)
				puts(t, d, headAt(p.from, 8, p.room())[0])
				refuses(t, d, p, api.ErrJournal)
				// Those behind Count are not replayed, and may be anything.
				if i > 0 {
					puts(t, d, headAt(p.from, 8, i)[0])
					opens(t, d, p, i, 8)
				}
			}
			if t.Failed() {
				t.Fatalf("sector %d", wrong)
			}
		}
	}
}

// The sectors around the journal and at the ends of the disk may be replayed, with each kind of tag.
func TestOpenReplaysEachSectorAndTag(t *testing.T) {
	p := place{4096, 300, 40}
	for _, at := range []int{0, 1, 254, 255, 256, 257, 299, 340, 341, 511, 512, 4094, 4095} {
		for _, tag := range []api.Label{0, 1, 2, 255, 256, 257, 32767, 32768, 65535} {
			d, _ := disk.New(p.size)
			want := patch(at, 77)
			want.Tag = tag
			puts(t, d, storedAt(p.from, []api.Patch{want})...)
			puts(t, d, headAt(p.from, 1, 1)[0])
			opens(t, d, p, 1, 1)
			holds(t, d, want)
		}
	}
}

// Of patches of the same sector, the last one is what remains.
func TestOpenReplaysInOrder(t *testing.T) {
	p := place{70, 20, 40}
	d := p.disk(t)
	var l []api.Patch
	for i := range p.room() {
		l = append(l, patch([]int{3, 68, 3, 4}[i%4], 500+i))
	}
	puts(t, d, storedAt(p.from, l)...)
	puts(t, d, headAt(p.from, 1, len(l))[0])
	opens(t, d, p, len(l), 1)
	for _, sector := range []int{3, 68, 4} {
		i := len(l) - 1
		for l[i].Sector != sector {
			i--
		}
		holds(t, d, l[i])
	}
}

// Neither the tags of lists nor their bytes behind the patches are examined.
func TestOpenOfListsWithMore(t *testing.T) {
	p := place{70, 20, 40}
	for _, n := range []int{1, 2, 14, 15, 16, 31} {
		d := p.disk(t)
		l := p.patches(n, 1)
		s := storedAt(p.from, l)
		for i := 0; i < len(s); i += 16 {
			s[i].Tag = 4321
			for k := range 64 {
				if k >= 60 || i/16*15+k/4 >= n {
					s[i].Bytes[k] = 255
				}
			}
		}
		puts(t, d, s...)
		puts(t, d, headAt(p.from, 1, n)[0])
		want := d.Copy()
		perform(want, replaying(p.from, 1, l))
		opens(t, d, p, n, 1)
		sameDisk(t, d, want)
	}
}

// P7.2

func TestNeed(t *testing.T) {
	want := 0
	for n := 1; n <= 9000; n++ {
		want++
		if n%15 == 1 {
			want++
		}
		if got := journal.Need(n); got != want {
			t.Errorf("Need of %d: got %d, want %d", n, got, want)
		}
	}
	for _, c := range [][2]int{
		{0, 0}, {-1, 0}, {-2, 0}, {-14, 0}, {-15, 0}, {-16, 0}, {-1 << 31, 0}, {math.MinInt, 0}, {math.MinInt + 1, 0},
		{1, 2}, {15, 16}, {16, 18}, {30, 32}, {31, 34}, {3839, 4095}, {3840, 4096}, {3841, 4098},
		{1<<31 - 1, 2290649224}, {1 << 59, 614891469123651721},
	} {
		if got := journal.Need(c[0]); got != c[1] {
			t.Errorf("Need of %d: got %d, want %d", c[0], got, c[1])
		}
	}
}

// Room is the greatest number of patches that need no more sectors than there are behind the head, wherever the journal lies.
func TestRoomOfEachSize(t *testing.T) {
	d, _ := disk.New(4096)
	want := 0
	for n := 3; n <= 4096; n++ {
		for sectors(want+1) <= n-1 {
			want++
		}
		for _, from := range []int{0, (4096 - n) / 2, 4096 - n} {
			j, _, e := journal.Open(d, from, n)
			if e != api.OK || j.Room() != want {
				t.Fatalf("Room of %d sectors from %d on: got %d, error %d; want %d", n, from, j.Room(), e, want)
			}
		}
	}
	for _, c := range [][2]int{{3, 1}, {4, 2}, {8, 6}, {16, 14}, {17, 15}, {18, 15}, {19, 16}, {20, 17}, {33, 30}, {34, 30}, {35, 31}, {4096, 3839}} {
		if j, _, _ := journal.Open(d, 0, c[0]); j.Room() != c[1] {
			t.Errorf("Room of %d sectors: got %d, want %d", c[0], j.Room(), c[1])
		}
	}
}

// Each Commit that writes increases Seq by one, and no other does; the next Open finds the same.
func TestSeqCountsCommits(t *testing.T) {
	p := place{12, 2, 8}
	for _, first := range []uint64{0, 1, 255, 65535, 1<<32 - 1, 1<<63 - 2, all - 5} {
		d := p.disk(t)
		puts(t, d, headAt(p.from, first, 0)[0])
		j := opens(t, d, p, 0, first)
		for k := range uint64(5) {
			commits(t, j, nil, api.OK)
			commits(t, j, p.patches(7, 1), api.ErrLong)
			commits(t, j, []api.Patch{patch(2, 1)}, api.ErrArg)
			if j.Seq() != first+k {
				t.Errorf("Seq: got %d, want %d", j.Seq(), first+k)
			}
			commits(t, j, p.patches(int(k)+1, 1), api.OK)
			if j.Seq() != first+k+1 {
				t.Errorf("Seq: got %d, want %d", j.Seq(), first+k+1)
			}
			opens(t, d, p, 0, first+k+1)
		}
	}
}

// P7.3

// All the patches are written, safely, and nothing else outside the journal.
func TestCommitWritesThePatches(t *testing.T) {
	for _, p := range places() {
		for _, n := range counts(p.room()) {
			l := p.patches(n, 1)
			if len(l) < n {
				continue
			}
			d := p.disk(t)
			j, want := opens(t, d, p, 0, 0), after(state(d), l)
			commits(t, j, l, api.OK)
			if d.Crash(0); !equal(p, state(d), want) {
				t.Fatalf("%+v, %d patches: the sectors are not those of the patches", p, n)
			}
		}
	}
}

func TestCommitOfOnePatchMakesNineOperations(t *testing.T) {
	p := place{12, 2, 8}
	d := p.disk(t)
	j, done := opens(t, d, p, 0, 0), d.Done()
	commits(t, j, []api.Patch{patch(11, 1)}, api.OK)
	if n := d.Done() - done; n != 9 {
		t.Errorf("%d operations", n)
	}
	holds(t, d, patch(11, 1))
	holds(t, d, headAt(2, 1, 0)[0])
	holds(t, d, storedAt(2, []api.Patch{patch(11, 1)})[0])
	holds(t, d, patch(4, 1))
	holds(t, d, patch(5, 10005))
}

// Many Commits behind each other, each of whose patches lie where those of the last one lay.
func TestCommitsBehindEachOther(t *testing.T) {
	p := place{70, 20, 40}
	d := p.disk(t)
	want := d.Copy()
	j := opens(t, d, p, 0, 0)
	for k, n := range []int{36, 1, 15, 16, 2, 31, 30, 14, 36, 0, 1} {
		l := p.patches(n, 100*k)
		commits(t, j, l, api.OK)
		if n > 0 {
			perform(want, committing(p.from, j.Seq(), l))
		}
		sameDisk(t, d, want)
	}
	opens(t, d, p, 0, 10)
}

// Patches of the same sector are written in order, in one group and in two.
func TestCommitOfTheSameSector(t *testing.T) {
	p := place{70, 20, 40}
	for _, n := range []int{2, 3, 15, 16, 36} {
		d := p.disk(t)
		var l []api.Patch
		for i := range n {
			l = append(l, patch(5, 300+i))
		}
		j := opens(t, d, p, 0, 0)
		commits(t, j, l, api.OK)
		holds(t, d, l[n-1])
		d.Crash(0)
		holds(t, d, l[n-1])
	}
}

// refusesCommit makes sure that a Commit returns an error, and that nothing is other behind it.
func refusesCommit(t *testing.T, d *disk.Disk, j *journal.Journal, l []api.Patch, want api.Errno) {
	t.Helper()
	was, seq, room := d.Copy(), j.Seq(), j.Room()
	commits(t, j, l, want)
	sameDisk(t, d, was)
	if j.Seq() != seq || j.Room() != room {
		t.Errorf("Seq and Room: got %d and %d, want %d and %d", j.Seq(), j.Room(), seq, room)
	}
}

func TestCommitRefusesMoreThanRoom(t *testing.T) {
	for _, p := range []place{{5, 1, 3}, {9, 2, 4}, {60, 0, 17}, {60, 3, 18}, {60, 9, 19}, {70, 0, 34}, {4096, 1, 4095}} {
		d := p.disk(t)
		j := opens(t, d, p, 0, 0)
		for _, more := range []int{1, 2, 15, 70000} {
			refusesCommit(t, d, j, p.patches(p.room()+more, 1), api.ErrLong)
			// It comes before what is wrong with the patches.
			refusesCommit(t, d, j, make([]api.Patch, p.room()+more), api.ErrLong)
		}
		commits(t, j, p.patches(p.room(), 1), api.OK)
	}
}

// One patch with a wrong sector or wrong bytes, wherever it is, refuses all of them.
func TestCommitRefusesPatches(t *testing.T) {
	for _, p := range []place{{5, 1, 3}, {12, 0, 8}, {12, 4, 8}, {70, 20, 35}} {
		d := p.disk(t)
		j := opens(t, d, p, 0, 0)
		var wrong []api.Patch
		for _, at := range append(p.wrongSectors(), -1, -2, -65536, -65537, 65536, 65537, 1<<32, math.MaxInt, math.MinInt) {
			wrong = append(wrong, patch(at, 1))
		}
		free := p.free()[0]
		for _, n := range []int{1, 2, 32, 60, 63, 65, 66, 128, 4096} {
			wrong = append(wrong, api.Patch{Sector: free, Bytes: make([]byte, n), Tag: 3})
		}
		wrong = append(wrong, api.Patch{Sector: free}, api.Patch{Sector: free, Bytes: []byte{}}, api.Patch{Sector: free, Bytes: make([]byte, 63, 64)}, api.Patch{Sector: p.from})
		for _, w := range wrong {
			for i := range p.room() {
				for n := i + 1; n <= p.room(); n += max(1, p.room()-i-1) {
					l := p.patches(n, 1)
					l[i] = w
					refusesCommit(t, d, j, l, api.ErrArg)
				}
			}
			if t.Failed() {
				t.Fatalf("sector %d, %d bytes", w.Sector, len(w.Bytes))
			}
		}
		commits(t, j, p.patches(1, 1), api.OK)
		opens(t, d, p, 0, 1)
	}
}

// Where all sectors are the journal's, there is none for a patch.
func TestCommitWithoutOtherSectors(t *testing.T) {
	for _, p := range []place{{3, 0, 3}, {4096, 0, 4096}} {
		d := p.disk(t)
		j := opens(t, d, p, 0, 0)
		for _, at := range []int{-1, 0, 1, 2, p.size - 1, p.size} {
			refusesCommit(t, d, j, []api.Patch{patch(at, 1)}, api.ErrArg)
		}
		refusesCommit(t, d, j, nil, api.OK)
	}
}

// Each sector outside the journal may be written, those around it too, with each kind of tag.
func TestCommitOfEachSectorAndTag(t *testing.T) {
	p := place{4096, 300, 40}
	d, _ := disk.New(p.size)
	j := opens(t, d, p, 0, 0)
	for _, at := range []int{0, 1, 254, 255, 256, 257, 299, 340, 341, 511, 512, 4094, 4095} {
		for _, tag := range []api.Label{0, 1, 2, 255, 256, 257, 32767, 32768, 65535} {
			l := []api.Patch{patch(at, 77), patch(2, 78)}
			l[0].Tag = tag
			want := d.Copy()
			perform(want, committing(p.from, j.Seq()+1, l))
			commits(t, j, l, api.OK)
			holds(t, d, l[0])
			for _, s := range storedAt(p.from, l) {
				holds(t, d, s)
			}
			if d.Done() != want.Done() {
				t.Errorf("Done: got %d, want %d", d.Done(), want.Done())
			}
		}
	}
	for _, at := range []int{300, 301, 339, 4096} {
		refusesCommit(t, d, j, []api.Patch{patch(at, 1)}, api.ErrArg)
	}
}

// Seq can't be increased beyond 2^64 - 1; no patches need no new Seq.
func TestCommitAtTheGreatestSeq(t *testing.T) {
	p := place{12, 2, 8}
	d := p.disk(t)
	puts(t, d, headAt(p.from, all-1, 0)[0])
	j := opens(t, d, p, 0, all-1)
	want := d.Copy()
	l := p.patches(6, 1)
	perform(want, committing(p.from, all, l))
	commits(t, j, l, api.OK)
	sameDisk(t, d, want)
	for _, j := range []*journal.Journal{j, opens(t, d, p, 0, all)} {
		refusesCommit(t, d, j, l, api.ErrArg)
		refusesCommit(t, d, j, l[:1], api.ErrArg)
		refusesCommit(t, d, j, nil, api.OK)
		refusesCommit(t, d, j, p.patches(7, 1), api.ErrLong)
		off(t, d)
		refusesCommit(t, d, j, l, api.ErrArg)
		d.Crash(0)
	}
}

// A replay keeps the greatest Seq: also a Commit that made it may be cut off.
func TestCommitOfTheGreatestSeqIsReplayed(t *testing.T) {
	p := place{12, 2, 8}
	d := p.disk(t)
	puts(t, d, headAt(p.from, all-1, 0)[0])
	l := p.patches(3, 1)
	j := opens(t, d, p, 0, all-1)
	d.Cut(7)
	commits(t, j, l, api.ErrDead)
	d.Crash(0)
	opens(t, d, p, 3, all)
	holds(t, d, l[2])
	opensAgain(t, d, p, all)
}

// With the power off, what is wrong with the patches comes first, and no patches need no power.
func TestCommitWithThePowerOff(t *testing.T) {
	p := place{12, 2, 8}
	d := p.disk(t)
	j := opens(t, d, p, 0, 0)
	off(t, d)
	refusesCommit(t, d, j, nil, api.OK)
	refusesCommit(t, d, j, []api.Patch{}, api.OK)
	refusesCommit(t, d, j, p.patches(7, 1), api.ErrLong)
	refusesCommit(t, d, j, []api.Patch{patch(2, 1)}, api.ErrArg)
	refusesCommit(t, d, j, []api.Patch{patch(12, 1)}, api.ErrArg)
	refusesCommit(t, d, j, []api.Patch{{Sector: 1}}, api.ErrArg)
	refusesCommit(t, d, j, p.patches(1, 1), api.ErrDead)
	refusesCommit(t, d, j, p.patches(6, 1), api.ErrDead)
	d.Crash(all)
	opens(t, d, p, 0, 0)
}

// No patches leave the disk alone, whatever it is about to do.
func TestCommitOfNothing(t *testing.T) {
	p := place{12, 2, 8}
	d := p.disk(t)
	j := opens(t, d, p, 0, 0)
	l := p.patches(2, 1)
	for _, none := range [][]api.Patch{nil, {}, l[:0], l[2:]} {
		d.Cut(0)
		refusesCommit(t, d, j, none, api.OK)
	}
	if d.Dead() {
		t.Error("the power went off")
	}
	d.Cut(-1)
	commits(t, j, l, api.OK)
}

func TestNilJournal(t *testing.T) {
	var j *journal.Journal
	p := place{12, 2, 8}
	for _, l := range [][]api.Patch{nil, {}, p.patches(1, 1), {{}}, p.patches(5000, 1)} {
		commits(t, j, l, api.ErrNone)
	}
	if j.Room() != 0 || j.Seq() != 0 {
		t.Errorf("Room and Seq: got %d and %d", j.Room(), j.Seq())
	}
}

// roomy returns patches behind whose ends, and behind the ends of whose bytes, there is something else.
func roomy(l []api.Patch) []api.Patch {
	big := make([]api.Patch, 0, len(l)+20)
	for _, p := range l {
		b := append(make([]byte, 0, 200), p.Bytes...)
		copy(b[64:200], bytes.Repeat([]byte{238}, 136))
		p.Bytes = b
		big = append(big, p)
	}
	for range 20 {
		big = append(big, api.Patch{Sector: -5, Tag: 238})
	}
	return big[:len(l)]
}

// Commit changes nothing that is handed in, also not behind its end, reads nothing there, and keeps nothing of it.
func TestCommitLeavesItsPatchesAlone(t *testing.T) {
	p := place{70, 20, 40}
	for _, n := range []int{1, 15, 16, 31, 36} {
		d := p.disk(t)
		j := opens(t, d, p, 0, 0)
		want := p.patches(n, 1)
		l := roomy(want)
		commits(t, j, l, api.OK)
		for i, q := range l[:cap(l)] {
			if i >= n && (q.Sector != -5 || q.Bytes != nil || q.Tag != 238) {
				t.Errorf("patch %d behind the end is another one", i)
			}
			if i < n && (q.Sector != want[i].Sector || q.Tag != want[i].Tag || !bytes.Equal(q.Bytes, want[i].Bytes)) {
				t.Errorf("patch %d is another one", i)
			}
			if i < n && !bytes.Equal(q.Bytes[64:200], bytes.Repeat([]byte{238}, 136)) {
				t.Errorf("patch %d has other bytes behind its end", i)
			}
		}
		for i := range l {
			clear(l[i].Bytes)
			l[i] = api.Patch{}
		}
		was := p.disk(t)
		perform(was, committing(p.from, 1, want))
		sameDisk(t, d, was)
		more := p.patches(1, 400)
		perform(was, committing(p.from, 2, more))
		commits(t, j, more, api.OK)
		sameDisk(t, d, was)
	}
}

// The patches of one Commit may have the same bytes, and the bytes of one may be part of another's.
func TestCommitOfSharedBytes(t *testing.T) {
	p := place{12, 2, 8}
	d := p.disk(t)
	j := opens(t, d, p, 0, 0)
	b := slices.Concat(patch(0, 1).Bytes, patch(0, 2).Bytes)
	l := []api.Patch{{Sector: 0, Bytes: b[:64]}, {Sector: 1, Bytes: b[:64], Tag: 1}, {Sector: 10, Bytes: b[1:65]}, {Sector: 11, Bytes: b[64:]}}
	commits(t, j, l, api.OK)
	for _, q := range l {
		holds(t, d, q)
	}
}

// Two journals of one disk know nothing of each other: what is one's sector is any other to the other.
func TestTwoJournalsOfOneDisk(t *testing.T) {
	p, q := place{40, 5, 8}, place{40, 13, 10}
	d := p.disk(t)
	q.cleared(t, d)
	a, b := opens(t, d, p, 0, 0), opens(t, d, q, 0, 0)
	commits(t, a, []api.Patch{patch(0, 1), patch(39, 2)}, api.OK)
	commits(t, b, []api.Patch{patch(39, 3), patch(1, 4)}, api.OK)
	commits(t, b, []api.Patch{patch(2, 5)}, api.OK)
	for _, w := range []api.Patch{patch(0, 1), patch(39, 3), patch(1, 4), patch(2, 5)} {
		holds(t, d, w)
	}
	opens(t, d, p, 0, 1)
	opens(t, d, q, 0, 2)
	commits(t, a, headAt(13, 70, 0), api.OK)
	opens(t, d, q, 0, 70)
}

// P7.4

// The replay of what was committed is what the Commit would have written, whatever remains of its own writes.
func TestReplayIsTheCommit(t *testing.T) {
	for _, p := range []place{{5, 1, 3}, {60, 3, 18}, {70, 0, 34}, {100, 30, 50}, {300, 1, 290}} {
		for _, n := range counts(p.room()) {
			if n == 0 {
				continue
			}
			l := p.patches(n, 1)
			base := p.disk(t)
			want := after(state(base), l)
			stored := len(storedAt(p.from, l))
			for k := range n + 2 {
				d := base.Copy()
				j := opens(t, d, p, 0, 0)
				// The head is safe from here on.
				d.Cut(stored + 3 + k)
				commits(t, j, l, api.ErrDead)
				d.Crash(0x5A5A5A5A5A5A5A5A >> (k % 2))
				head, _ := d.Read(p.from)
				count := int(binary.LittleEndian.Uint16(head[8:]))
				opens(t, d, p, count, 1)
				if !equal(p, state(d), want) {
					t.Fatalf("%+v, %d patches, cut after %d", p, n, k)
				}
			}
		}
	}
}
