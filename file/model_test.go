package file_test

import (
	"bytes"
	"encoding/binary"
	"slices"
	"testing"

	"moat/api"
	"moat/disk"
	"moat/file"
	"moat/volume"
)

// An object is a file as the chapter describes it: its bytes, and by pointers (a block and 1, or 0) its blocks, and those of pointers.
type object struct {
	size             int
	bytes            [most]byte
	blocks           [count]int
	ind, dind, inner int
}

// tables returns what blocks of pointers an object has, and the pointers in each.
func (o *object) tables() map[int][]int {
	return map[int][]int{
		o.ind:   o.blocks[8:40],
		o.inner: o.blocks[40:],
		o.dind:  {o.inner},
	}
}

// all returns the blocks of an object in order.
func (o *object) all() []int {
	l := slices.Concat(o.blocks[:8], []int{o.ind}, o.blocks[8:40], []int{o.dind, o.inner}, o.blocks[40:])
	l = slices.DeleteFunc(l, func(p int) bool { return p == 0 })
	for k := range l {
		l[k]--
	}
	return l
}

func spelled(l []int) []byte {
	b := make([]byte, size)
	for k, p := range l {
		binary.LittleEndian.PutUint16(b[2*k:], uint16(p))
	}
	return b
}

// A model does to a volume of its own what the chapter asks for, step by step.
type model struct {
	t     *testing.T
	v     *volume.Volume
	files [8]object
	began *[8]object // what may be restored
}

func (m *model) must(what string, e api.Errno) {
	m.t.Helper()
	if e != api.OK {
		m.t.Fatalf("%s in the model: error %d", what, e)
	}
}

// need makes a pointer point to a block.
func (m *model) need(p *int, a api.Label) api.Errno {
	if *p > 0 {
		return api.OK
	}
	block, e := m.v.Alloc(a)
	if e == api.OK {
		*p = block + 1
	}
	return e
}

// allocate gives an object the blocks from one number to another, the last one included.
func (m *model) allocate(o *object, a api.Label, from, last int) api.Errno {
	for k := from; k <= last; k++ {
		way := []*int{&o.blocks[k]}
		if k >= 40 {
			way = []*int{&o.dind, &o.inner, &o.blocks[k]}
		} else if k >= 8 {
			way = []*int{&o.ind, &o.blocks[k]}
		}
		for _, p := range way {
			if e := m.need(p, a); e != api.OK {
				return e
			}
		}
	}
	return api.OK
}

// put writes a block of an object.
func (m *model) put(o *object, k int) {
	m.t.Helper()
	m.must("Write", m.v.Write(o.blocks[k]-1, o.bytes[k*size:][:size]))
}

// keep makes inode i what the object is, and writes the blocks of pointers that are not what they were.
func (m *model) keep(i int, was, now *object) {
	m.t.Helper()
	old := was.tables()
	for p, l := range now.tables() {
		if p > 0 && !slices.Equal(l, old[p]) {
			m.must("Write", m.v.Write(p-1, spelled(l)))
		}
	}
	n, _, e := m.v.Inode(i)
	m.must("Inode", e)
	n.Size, n.Direct, n.Ind, n.Dind = now.size, [8]int(now.blocks[:8]), now.ind, now.dind
	m.must("Set", m.v.Set(i, n))
	m.files[i] = *now
}

func (m *model) read(i, at, n int) ([]byte, api.Errno) {
	if _, _, e := m.v.Inode(i); e != api.OK {
		return nil, e
	}
	if at < 0 || n < 0 {
		return nil, api.ErrArg
	}
	o := m.files[i]
	b := o.bytes[min(at, o.size):o.size]
	return slices.Clone(b[:min(n, len(b))]), api.OK
}

func (m *model) write(i, at int, b []byte) api.Errno {
	m.t.Helper()
	_, a, e := m.v.Inode(i)
	switch {
	case e != api.OK:
		return e
	case at < 0:
		return api.ErrArg
	case at > most || at+len(b) > most:
		return api.ErrLong
	case len(b) == 0:
		return api.OK
	}
	now := m.files[i]
	from, last := at/size, (at+len(b)-1)/size
	if e := m.allocate(&now, a, from, last); e != api.OK {
		return e
	}
	copy(now.bytes[at:], b)
	now.size = max(now.size, at+len(b))
	for k := from; k <= last; k++ {
		m.put(&now, k)
	}
	was := m.files[i]
	m.keep(i, &was, &now)
	return api.OK
}

// release frees what a pointer points to, and makes it point to nothing.
func (m *model) release(p *int) {
	m.t.Helper()
	if *p > 0 {
		m.must("Free", m.v.Free(*p-1))
		*p = 0
	}
}

func (m *model) cut(i, n int) api.Errno {
	m.t.Helper()
	if _, _, e := m.v.Inode(i); e != api.OK {
		return e
	}
	if n < 0 || n > most {
		return api.ErrArg
	}
	was := m.files[i]
	now := was
	now.size = n
	for k := n; k < most; k++ {
		now.bytes[k] = 0
	}
	for k := range count {
		if k*size >= n {
			m.release(&now.blocks[k])
		} else if now.blocks[k] > 0 && now.bytes != was.bytes && k == n/size && !bytes.Equal(now.bytes[k*size:][:size], was.bytes[k*size:][:size]) {
			m.put(&now, k)
		}
	}
	if isNothing(now.blocks[8:40]) {
		m.release(&now.ind)
	}
	if isNothing(now.blocks[40:]) {
		m.release(&now.inner)
		m.release(&now.dind)
	}
	m.keep(i, &was, &now)
	return api.OK
}

func isNothing(l []int) bool { return slices.Max(l) == 0 }

func (m *model) drop(i int) api.Errno {
	m.t.Helper()
	e := m.cut(i, 0)
	if e == api.OK {
		m.must("Unmake", m.v.Unmake(i))
	}
	return e
}

// A pair is a volume on which the package works, and a model on another one.
type pair struct {
	*model
	v    *volume.Volume
	d, o *disk.Disk
}

// newPair returns a pair on copies of a disk with an empty volume.
func newPair(t *testing.T, base *disk.Disk) *pair {
	t.Helper()
	d, o := base.Copy(), base.Copy()
	return &pair{model: &model{t: t, v: mounts(t, o)}, v: mounts(t, d), d: d, o: o}
}

func (p *pair) same(what string, e, want api.Errno) api.Errno {
	p.t.Helper()
	if e != want {
		p.t.Fatalf("%s: error %d, want %d", what, e, want)
	}
	return e
}

func (p *pair) make(kind uint8, a api.Label) int {
	p.t.Helper()
	i, e := p.v.Make(kind, a)
	k, f := p.model.v.Make(kind, a)
	if i != k || e != f {
		p.t.Fatalf("Make: got %d, error %d; want %d, error %d", i, e, k, f)
	}
	return i
}

func (p *pair) write(i, at int, b []byte) api.Errno {
	p.t.Helper()
	return p.same("Write", file.Write(p.v, i, at, b), p.model.write(i, at, b))
}

func (p *pair) cut(i, n int) api.Errno {
	p.t.Helper()
	return p.same("Cut", file.Cut(p.v, i, n), p.model.cut(i, n))
}

func (p *pair) drop(i int) api.Errno {
	p.t.Helper()
	return p.same("Drop", file.Drop(p.v, i), p.model.drop(i))
}

func (p *pair) begin() {
	p.t.Helper()
	if p.same("Begin", p.v.Begin(), p.model.v.Begin()) == api.OK {
		p.began = new([8]object)
		*p.began = p.files
	}
}

func (p *pair) abort() {
	p.v.Abort()
	p.model.v.Abort()
	if p.began != nil {
		p.files = *p.began
	}
}

func (p *pair) sync() {
	p.t.Helper()
	if p.same("Sync", p.v.Sync(), p.model.v.Sync()) == api.OK {
		p.began = nil
	}
}

// again mounts both volumes once more.
func (p *pair) again() {
	p.t.Helper()
	p.sync()
	p.v, p.model.v = mounts(p.t, p.d), mounts(p.t, p.o)
}

// reads compares a Read with the model's.
func (p *pair) reads(i, at, n int) {
	p.t.Helper()
	want, we := p.model.read(i, at, n)
	reads(p.t, p.v, i, at, n, want, we)
}

// agrees compares the bytes and the blocks of each inode with the model, and then both volumes.
func (p *pair) agrees() {
	p.t.Helper()
	for i := range p.v.Geo().Inodes {
		p.reads(i, 0, most)
		if _, _, e := p.v.Inode(i); e == api.OK {
			consists(p.t, p.v, i, p.files[i].all()...)
		} else if l, f := file.Blocks(p.v, i); len(l) > 0 || f != e {
			p.t.Fatalf("Blocks of %d: got %v, error %d; want error %d", i, l, f, e)
		}
	}
	samePicture(p.t, pictured(p.v), pictured(p.model.v))
}

// belongs makes sure that each block in use belongs to exactly one inode, once, and to a group of its label.
func (p *pair) belongs() {
	p.t.Helper()
	var l []int
	m, per := p.v.Meta(), p.v.Geo().PerGroup
	for i, n := range m.Inodes {
		blocks, _ := file.Blocks(p.v, i)
		l = append(l, blocks...)
		for _, block := range blocks {
			if m.Owners[block/per] != int(n.Row)+1 {
				p.t.Fatalf("block %d of %d is owned by %d", block, i, m.Owners[block/per]-1)
			}
		}
	}
	slices.Sort(l)
	uses(p.t, p.v, l...)
}

// short does one of the things of short runs.
func (p *pair) short(thing, c int) {
	p.t.Helper()
	ats := []int{0, 70, 510, 560, 2558, 3839, 63}
	sizes := []int{0, 1, 65, 513, 600, 2561, most}
	switch {
	case thing < 7:
		at := ats[thing]
		p.write(0, at, pattern(c, min(4, most-at)))
	case thing < 14:
		p.cut(0, sizes[thing-7])
	case thing == 14:
		p.write(1, 500, pattern(c, 30))
	case thing == 15:
		p.cut(1, 510)
	case thing == 16:
		p.drop(0)
		p.make(api.KindFile, 6)
	case thing == 17:
		p.begin()
	case thing == 18:
		p.abort()
	default:
		p.sync()
	}
}

const shortThings = 20

// All runs of three calls, in volumes with room and with too little of it.
func TestAllShortRunsAsTheModel(t *testing.T) {
	for _, prefix := range [][]int{nil, {6, 2, 4, 14, 19}, {17, 1, 3, 5}} {
		for _, g := range []api.Geo{full(16), full(7)} {
			_, base := mounted(t, g)
			for run := range shortThings * shortThings * shortThings {
				p := newPair(t, base)
				p.make(api.KindFile, 6)
				p.make(api.KindDir, 6)
				for k, thing := range prefix {
					p.short(thing, 100+k)
				}
				for k, left := 0, run; k < 3; k, left = k+1, left/shortThings {
					p.short(left%shortThings, k)
				}
				p.agrees()
				if t.Failed() {
					t.Fatalf("run %d behind %v", run, prefix)
				}
			}
		}
	}
}

// step does one thing of a long run; behind an error everything is undone.
func (x *dice) step(p *pair, labels, c int) {
	p.t.Helper()
	i := x.under(p.v.Geo().Inodes)
	switch k := x.under(20); {
	case k < 3:
		p.reads(i, x.edge(), x.edge())
	case k < 10:
		p.begin()
		at := x.edge()
		if p.write(i, at, pattern(c, min(x.edge(), most-at))) == api.ErrFull {
			p.abort()
		}
	case k < 15:
		p.begin()
		p.cut(i, x.edge())
	case k < 16:
		p.drop(i)
	case k < 18:
		p.make(uint8(1+x.under(2)), api.Label(3*x.under(labels)))
	case k < 19:
		p.abort()
	case x.under(2) == 0:
		p.again()
	default:
		p.sync()
	}
}

// Long runs on volumes of several forms, with few labels and with many.
func TestLongRunsAsTheModel(t *testing.T) {
	for k, g := range []api.Geo{roomy, whole, single, odd, full(40), full(90)} {
		_, base := mounted(t, g)
		for seed := range 6 {
			x := dice(100*k + seed)
			p := newPair(t, base)
			for c := range 300 {
				x.step(p, 1+2*seed, c)
				if c%20 == 0 {
					p.agrees()
					p.belongs()
				}
			}
			p.sync()
			p.agrees()
			p.belongs()
			sameDisk(t, p.d, p.o)
		}
	}
}
