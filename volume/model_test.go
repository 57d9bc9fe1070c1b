package volume_test

import (
	"bytes"
	"slices"
	"testing"

	"moat/api"
	"moat/disk"
	"moat/volume"
)

// A block of a model: now and tag are what it is to be if it is dirty.
type block struct {
	used, dirty bool
	now         [size]byte
	tag         api.Label
}

// A model counts no references: a row is free if nothing is found that has it.
type state struct {
	labels [table]api.Label
	owners [64]int // of each group the row and 1
	inodes [64]api.Inode
	blocks [512]block
}

func (s *state) refs(row int) int {
	n := 0
	for _, owner := range s.owners {
		if owner == row+1 {
			n++
		}
	}
	for _, k := range s.inodes {
		if k.Kind != 0 && int(k.Row) == row {
			n++
		}
	}
	return n
}

// row returns the row that a label has, or gets.
func (s *state) row(a api.Label) (int, api.Errno) {
	for i := range table {
		if s.refs(i) > 0 && s.labels[i] == a {
			return i, api.OK
		}
	}
	for i := range table {
		if s.refs(i) == 0 {
			s.labels[i] = a
			return i, api.OK
		}
	}
	return 0, api.ErrFull
}

func (s *state) meta(g api.Geo) api.Meta {
	m := empty(g)
	for i := range table {
		if n := s.refs(i); n > 0 {
			m.Rows[i] = api.Row{Label: s.labels[i], Refs: n}
		}
	}
	copy(m.Owners, s.owners[:])
	copy(m.Inodes, s.inodes[:])
	for i, b := range s.blocks {
		if b.used {
			m.Used[i/8] |= 1 << (i % 8)
		}
	}
	return m
}

func (s *state) dirty() int {
	n := 0
	for _, b := range s.blocks {
		if b.dirty {
			n++
		}
	}
	return n
}

// A model of a volume keeps its whole state as one value, and works on a disk of its own.
type model struct {
	state
	g     api.Geo
	safe  api.Meta // as it is on the disk
	began []state  // what may be restored, if there is one
	d     *disk.Disk
	seq   uint64
	dead  bool
}

// newModel returns the model of an empty volume.
func newModel(d *disk.Disk, g api.Geo) *model { return &model{g: g, safe: empty(g), d: d} }

// patches returns what a Sync writes.
func (m *model) patches() []api.Patch {
	var l []api.Patch
	at, was := plan(m.g), spelled(m.safe)
	for i, b := range spelled(m.meta(m.g)) {
		if !bytes.Equal(b, was[i]) {
			l = append(l, api.Patch{Sector: at.Labels + i, Bytes: b})
		}
	}
	for i, b := range m.blocks {
		if b.dirty {
			l = append(l, api.Patch{Sector: at.Blocks + i, Bytes: slices.Clone(b.now[:]), Tag: b.tag})
		}
	}
	return l
}

func (m *model) sync() api.Errno {
	l := m.patches()
	if m.dead {
		return api.ErrDead
	}
	if len(l) > room(m.g.Journal) {
		return api.ErrLong
	}
	if perform(m.d, committing(m.seq+1, l)) != api.OK {
		m.dead = true
		return api.ErrDead
	}
	if len(l) > 0 {
		m.seq++
	}
	m.safe, m.began = m.meta(m.g), nil
	for i := range m.blocks {
		m.blocks[i].dirty = false
	}
	return api.OK
}

func (m *model) begin() api.Errno {
	if m.dirty()+parts(m.g)+reserve > room(m.g.Journal) {
		if e := m.sync(); e != api.OK {
			return e
		}
	}
	m.began = []state{m.state}
	return api.OK
}

func (m *model) abort() {
	for _, s := range m.began {
		m.state = s
	}
}

func (m *model) count() int { return m.g.Groups * m.g.PerGroup }

// owner returns the row and 1 of who owns a block.
func (m *model) owner(block int) int { return m.owners[block/m.g.PerGroup] }

func (m *model) alloc(a api.Label) (int, api.Errno) {
	for i := range m.count() {
		if row := m.owner(i) - 1; row >= 0 && m.labels[row] == a && !m.blocks[i].used {
			m.blocks[i].used = true
			return i, api.OK
		}
	}
	for i := range m.g.Groups {
		if m.owners[i] > 0 {
			continue
		}
		row, e := m.row(a)
		if e != api.OK {
			return 0, e
		}
		m.owners[i] = row + 1
		m.blocks[i*m.g.PerGroup].used = true
		return i * m.g.PerGroup, api.OK
	}
	return 0, api.ErrFull
}

// reach returns the error of a block that can't be freed or written.
func (m *model) reach(block int) api.Errno {
	if block < 0 || block >= m.count() {
		return api.ErrArg
	}
	if !m.blocks[block].used {
		return api.ErrNone
	}
	return api.OK
}

func (m *model) put(i int, b []byte) {
	m.blocks[i] = block{used: true, dirty: true, now: [size]byte(b), tag: m.labels[m.owner(i)-1]}
}

func (m *model) free(block int) api.Errno {
	if e := m.reach(block); e != api.OK {
		return e
	}
	m.put(block, make([]byte, size))
	m.blocks[block].used = false
	group := block / m.g.PerGroup
	for i := range m.count() {
		if i/m.g.PerGroup == group && m.blocks[i].used {
			return api.OK
		}
	}
	m.owners[group] = 0
	return api.OK
}

func (m *model) read(block int) ([]byte, api.Errno) {
	if block < 0 || block >= m.count() {
		return nil, api.ErrArg
	}
	if m.blocks[block].dirty {
		return slices.Clone(m.blocks[block].now[:]), api.OK
	}
	return m.d.Read(plan(m.g).Blocks + block)
}

func (m *model) write(block int, b []byte) api.Errno {
	if e := m.reach(block); e == api.ErrArg || len(b) != size {
		return api.ErrArg
	} else if e != api.OK {
		return e
	}
	m.put(block, b)
	return api.OK
}

func (m *model) make(kind uint8, a api.Label) (int, api.Errno) {
	if kind != 1 && kind != 2 {
		return 0, api.ErrArg
	}
	for i := range m.g.Inodes {
		if m.inodes[i].Kind > 0 {
			continue
		}
		row, e := m.row(a)
		if e != api.OK {
			return 0, e
		}
		m.inodes[i] = api.Inode{Kind: kind, Row: uint8(row)}
		return i, api.OK
	}
	return 0, api.ErrFull
}

func (m *model) inode(i int) (api.Inode, api.Label, api.Errno) {
	if i < 0 || i >= m.g.Inodes {
		return api.Inode{}, 0, api.ErrArg
	}
	n := m.inodes[i]
	if n.Kind == 0 {
		return api.Inode{}, 0, api.ErrNone
	}
	return n, m.labels[n.Row], api.OK
}

func (m *model) unmake(i int) api.Errno {
	_, _, e := m.inode(i)
	if e == api.OK {
		m.inodes[i] = api.Inode{}
	}
	return e
}

// isInode holds an inode against the words of the chapter on inodes.
func isInode(n api.Inode) bool {
	for _, k := range append(n.Direct[:], n.Ind, n.Dind) {
		if k < 0 || k > 512 {
			return false
		}
	}
	if n.Links < 0 || n.Links > 65535 || n.Size < 0 || n.Size > 3840 {
		return false
	}
	return n == api.Inode{} || (n.Kind == 1 || n.Kind == 2) && n.Row < table
}

func (m *model) set(i int, n api.Inode) api.Errno {
	was, _, e := m.inode(i)
	switch {
	case e == api.ErrArg, !isInode(n), n.Kind == 0:
		return api.ErrArg
	case e != api.OK:
		return e
	case n.Kind != was.Kind, n.Row != was.Row:
		return api.ErrArg
	}
	m.inodes[i] = n
	return api.OK
}

// A pair is a volume and its model, on disks that are to be the same.
type pair struct {
	t *testing.T
	v *volume.Volume
	d *disk.Disk
	m *model
}

// mounts mounts a volume that must be there.
func mounts(t *testing.T, d *disk.Disk) *volume.Volume {
	t.Helper()
	v, e := volume.Mount(d)
	if v == nil || e != api.OK {
		t.Fatalf("Mount: got %v, error %d", v != nil, e)
	}
	return v
}

// newPair returns an empty volume and its model.
func newPair(t *testing.T, g api.Geo) *pair {
	t.Helper()
	d := formatted(t, g, 3)
	p := &pair{t: t, d: d, m: newModel(d.Copy(), g)}
	p.v = mounts(t, d)
	return p
}

// is fails the test unless two errors are the same.
func (p *pair) is(what string, e, want api.Errno) {
	p.t.Helper()
	if e != want {
		p.t.Fatalf("%s: error %d, want %d", what, e, want)
	}
}

// gives fails the test unless two numbers and their errors are the same; it returns the number.
func (p *pair) gives(what string, n int, e api.Errno, want int, we api.Errno) int {
	p.t.Helper()
	if n != want || e != we {
		p.t.Fatalf("%s: got %d, error %d; want %d, error %d", what, n, e, want, we)
	}
	return n
}

func (p *pair) begin() { p.t.Helper(); p.is("Begin", p.v.Begin(), p.m.begin()) }

func (p *pair) abort() { p.v.Abort(); p.m.abort() }

func (p *pair) sync() { p.t.Helper(); p.is("Sync", p.v.Sync(), p.m.sync()) }

func (p *pair) alloc(a api.Label) int {
	p.t.Helper()
	n, e := p.v.Alloc(a)
	want, we := p.m.alloc(a)
	return p.gives("Alloc", n, e, want, we)
}

func (p *pair) free(block int) {
	p.t.Helper()
	p.is("Free", p.v.Free(block), p.m.free(block))
}

func (p *pair) write(block int, b []byte) {
	p.t.Helper()
	p.is("Write", p.v.Write(block, b), p.m.write(block, b))
}

func (p *pair) make(kind uint8, a api.Label) int {
	p.t.Helper()
	n, e := p.v.Make(kind, a)
	want, we := p.m.make(kind, a)
	return p.gives("Make", n, e, want, we)
}

func (p *pair) unmake(i int) {
	p.t.Helper()
	p.is("Unmake", p.v.Unmake(i), p.m.unmake(i))
}

func (p *pair) set(i int, n api.Inode) {
	p.t.Helper()
	p.is("Set", p.v.Set(i, n), p.m.set(i, n))
}

func (p *pair) cut(after int) { p.d.Cut(after); p.m.d.Cut(after) }

func (p *pair) crash(there uint64) { p.d.Crash(there); p.m.d.Crash(there) }

// matches compares all that a volume tells of itself with its model, and their disks.
func (p *pair) matches() {
	p.t.Helper()
	if g := p.v.Geo(); g != p.m.g {
		p.t.Errorf("Geo: got %v, want %v", g, p.m.g)
	}
	if m, want := p.v.Meta(), p.m.meta(p.m.g); !sameMeta(m, want) {
		p.t.Errorf("Meta: got %v, want %v", m, want)
	}
	if n := p.v.Dirty(); n != p.m.dirty() {
		p.t.Errorf("Dirty: got %d, want %d", n, p.m.dirty())
	}
	for i := -1; i <= p.m.count(); i++ {
		b, e := p.v.Read(i)
		if want, we := p.m.read(i); !bytes.Equal(b, want) || e != we {
			p.t.Errorf("Read of block %d: got %v, error %d; want %v, error %d", i, b, e, want, we)
		}
	}
	for i := -1; i <= p.m.g.Inodes; i++ {
		n, a, e := p.v.Inode(i)
		if want, wa, we := p.m.inode(i); n != want || a != wa || e != we {
			p.t.Errorf("Inode %d: got %v, label %d, error %d; want %v, label %d, error %d", i, n, a, e, want, wa, we)
		}
	}
	sameDisk(p.t, p.d, p.m.d)
	if p.t.Failed() {
		p.t.FailNow()
	}
}

// short does one of the things of short runs, on blocks and inodes that may be there.
func (p *pair) short(thing, c int) {
	switch thing {
	case 0:
		p.begin()
	case 1:
		p.abort()
	case 2:
		p.sync()
	case 3, 4:
		p.alloc(api.Label(thing))
	case 5, 6, 7:
		p.free([]int{0, 1, 2}[thing-5])
	case 8, 9:
		p.write([]int{0, 2}[thing-8], sector(c))
	case 10, 11:
		p.make(uint8(thing-9), api.Label(thing-7))
	case 12:
		p.unmake(0)
	default:
		n, _, _ := p.m.inode(0)
		n.Size, n.Links = c, 1
		p.set(0, n)
	}
}

const shortThings = 14

// All runs of four calls, behind a few that leave blocks and an inode.
func TestAllShortRunsAsTheModel(t *testing.T) {
	base := formatted(t, small, 0)
	for _, prefix := range [][]int{nil, {3, 8, 2, 0, 10}} {
		for run := range shortThings * shortThings * shortThings * shortThings {
			d := base.Copy()
			p := &pair{t: t, d: d, v: mounts(t, d), m: newModel(base.Copy(), small)}
			for k, thing := range prefix {
				p.short(thing, 100+k)
			}
			for k, left := 0, run; k < 4; k, left = k+1, left/shortThings {
				p.short(left%shortThings, 200+k)
			}
			p.matches()
			if t.Failed() {
				t.Fatalf("run %d behind %v", run, prefix)
			}
		}
	}
}

// any returns a number below n, or rarely one that is far from it.
func (x *dice) any(n int) int {
	if x.under(20) == 0 {
		l := append([]int{-1, n, n + 1}, extremes...)
		return l[x.under(len(l))]
	}
	return x.under(n)
}

// inodeOf returns something that inode i may become, or not.
func (x *dice) inodeOf(p *pair, i int) api.Inode {
	n, _, _ := p.m.inode(i)
	n.Links, n.Size, n.Ind, n.Dind = x.under(65536), x.under(3841), x.under(513), x.under(513)
	for k := range n.Direct {
		n.Direct[k] = x.under(513)
	}
	switch x.under(12) {
	case 0:
		n.Kind = uint8(x.under(4))
	case 1:
		n.Row = uint8(x.under(17))
	case 2:
		n.Size = x.any(3841)
	}
	return n
}

// step does one thing of a long run.
func (x *dice) step(p *pair, labels, c int) {
	switch x.under(24) {
	case 0, 1:
		p.begin()
	case 2:
		p.abort()
	case 3:
		if x.under(3) == 0 {
			p.sync()
		}
	case 4, 5, 6, 7, 8, 9:
		p.alloc(api.Label(3 * x.under(labels)))
	case 10, 11, 12:
		p.free(x.any(p.m.count()))
	case 13, 14, 15, 16, 17:
		b := sector(c)
		if x.under(20) == 0 {
			b = append(b, b...)[:x.under(2*size)]
		}
		p.write(x.any(p.m.count()), b)
	case 18, 19:
		p.make(uint8(1+x.under(2)), api.Label(3*x.under(labels)))
	case 20, 21:
		p.unmake(x.any(p.m.g.Inodes))
	case 22:
		i := x.any(p.m.g.Inodes)
		p.set(i, x.inodeOf(p, i))
	default:
		p.make(uint8(x.under(256)), 1)
	}
}

// Long runs on volumes of each size, with few labels and with more than there are rows.
func TestLongRunsAsTheModel(t *testing.T) {
	for i, g := range geometries() {
		for seed := range 6 {
			x := dice(100*i + seed)
			p := newPair(t, g)
			labels := []int{1, 2, 5, 15, 20, 40}[seed]
			for c := range 500 {
				x.step(p, labels, c)
				if c%20 == 0 || g.Groups*g.PerGroup < 10 {
					p.matches()
				}
			}
			p.sync()
			p.matches()
			sameCrashes(t, p.d, p.m.d, 0)
		}
	}
}

// Long runs in which the power fails; then the volume tells what it told, as far as it did not lie on the disk alone.
func TestLongRunsWithoutPowerAsTheModel(t *testing.T) {
	for i, g := range []api.Geo{small, example, roomy} {
		for seed := range 20 {
			x := dice(1000 + 100*i + seed)
			p := newPair(t, g)
			for c := range 150 {
				switch x.under(20) {
				case 0:
					p.cut(x.under(40))
				case 1:
					p.crash(x.bits())
				default:
					x.step(p, 5, c)
				}
				p.matches()
			}
		}
	}
}
