package dir_test

import (
	"bytes"
	"slices"
	"strconv"
	"strings"
	"testing"

	"moat/api"
	"moat/dir"
	"moat/disk"
	"moat/file"
	"moat/volume"
)

// isName holds a name against the words of layer 12.
func isName(name string) bool {
	return 1 <= len(name) && len(name) <= 13 && !strings.Contains(name, "/") && !strings.Contains(name, "\x00") && name != "." && name != ".."
}

func isInode(n int) bool { return 0 <= n && n <= 63 }

// bitsOf returns what layer 2 says are the Bits of a name's hash value, in whole numbers.
func bitsOf(name string) byte {
	x, y := 1, 0
	for _, c := range []byte(name) {
		x, y = (3*x-2*y+int(c)+1+2*257)%257, (2*x+3*y+int(c)%7)%257
	}
	return byte(x + 16*y)
}

// spelled returns the bytes that an entry would have, valid or not; what there is no room for is cut.
func spelled(name string, inode int) []byte {
	b := make([]byte, per)
	b[0], b[1], b[2] = byte(len(name)), bitsOf(name), byte(inode)
	copy(b[3:], name)
	return b
}

// A table is a directory: its entries in order. A free one has no name.
type table []api.Entry

// named returns a table with these names, whose inodes are 1, 2, and so on; an empty one is a free entry.
func named(names ...string) table {
	l := make(table, len(names))
	for k, name := range names {
		if name != "" {
			l[k] = api.Entry{Name: name, Inode: 1 + k%63}
		}
	}
	return l
}

// name returns another name for each number, some of them as long as they may be.
func name(k int) string {
	s := "n" + strconv.Itoa(k)
	if k%3 == 0 {
		s += strings.Repeat("-", 13-len(s))
	}
	return s
}

// names returns the first n of them.
func names(n int) []string {
	l := make([]string, n)
	for k := range l {
		l[k] = name(k)
	}
	return l
}

// bytes returns those of a table.
func (l table) bytes() []byte {
	var b []byte
	for _, x := range l {
		if x.Name == "" {
			b = append(b, make([]byte, per)...)
		} else {
			b = append(b, spelled(x.Name, x.Inode)...)
		}
	}
	return b
}

// entries returns those of a table that are not free.
func (l table) entries() []api.Entry {
	return slices.DeleteFunc(slices.Clone(l), func(x api.Entry) bool { return x.Name == "" })
}

// place returns where that name is, -1 if it is nowhere; "" is where the first free entry is.
func (l table) place(name string) int {
	return slices.IndexFunc(l, func(x api.Entry) bool { return x.Name == name })
}

// trimmed returns a table without the free entries at its end.
func (l table) trimmed() table {
	for len(l) > 0 && l[len(l)-1].Name == "" {
		l = l[:len(l)-1]
	}
	return l
}

// tableOf returns the table with these bytes, and whether there is one.
func tableOf(b []byte) (table, bool) {
	var l table
	for ; len(b) >= per; b = b[per:] {
		x := api.Entry{Name: string(b[3 : 3+min(b[0], 13)]), Inode: int(b[2])}
		free := bytes.Equal(b[:per], make([]byte, per))
		if !free && (!isName(x.Name) || !isInode(x.Inode) || l.place(x.Name) >= 0 || !bytes.Equal(b[:per], spelled(x.Name, x.Inode))) {
			return nil, false
		}
		l = append(l, x)
	}
	return l, len(b) == 0
}

// A model does to a volume of its own what the chapter asks for, and writes single bytes and entries.
type model struct {
	t *testing.T
	v *volume.Volume
}

func (m *model) table(i int) (table, api.Errno) {
	n, _, e := m.v.Inode(i)
	if e != api.OK {
		return nil, e
	}
	if n.Kind != api.KindDir {
		return nil, api.ErrDir
	}
	b, e := file.Read(m.v, i, 0, n.Size)
	if e != api.OK {
		return nil, e
	}
	l, ok := tableOf(b)
	if !ok {
		return nil, api.ErrEntry
	}
	return l, api.OK
}

// wrong returns the error of an entry, whatever there is in a directory.
func wrong(x api.Entry) api.Errno {
	if !isName(x.Name) {
		return api.ErrName
	}
	if !isInode(x.Inode) {
		return api.ErrArg
	}
	return api.OK
}

func (m *model) add(i int, x api.Entry) api.Errno {
	l, e := m.table(i)
	if e != api.OK {
		return e
	}
	if e := wrong(x); e != api.OK {
		return e
	}
	if l.place(x.Name) >= 0 {
		return api.ErrThere
	}
	at := l.place("")
	if at < 0 {
		at = len(l)
	}
	if at == most {
		return api.ErrFull
	}
	return file.Write(m.v, i, at*per, spelled(x.Name, x.Inode))
}

func (m *model) remove(i int, name string) api.Errno {
	m.t.Helper()
	l, e := m.table(i)
	if e != api.OK {
		return e
	}
	at := l.place(name)
	if name == "" || at < 0 {
		return api.ErrNone
	}
	l[at] = api.Entry{}
	n := len(l.trimmed())
	if n < len(l) {
		cuts(m.t, m.v, i, n*per)
	}
	if at < n {
		writes(m.t, m.v, i, at*per, make([]byte, per))
	}
	return api.OK
}

func (m *model) replace(i int, x api.Entry) (int, api.Errno) {
	m.t.Helper()
	l, e := m.table(i)
	if e != api.OK {
		return 0, e
	}
	if e := wrong(x); e != api.OK {
		return 0, e
	}
	at := l.place(x.Name)
	if at < 0 {
		return 0, api.ErrNone
	}
	if l[at].Inode != x.Inode {
		writes(m.t, m.v, i, at*per+2, []byte{byte(x.Inode)})
	}
	return l[at].Inode, api.OK
}

// A pair is a volume on which the package works, and a model on another one.
type pair struct {
	*model
	v    *volume.Volume
	d, o *disk.Disk
}

// newPair returns a pair on copies of a disk with an empty volume.
func newPair(t *testing.T, base *disk.Disk) *pair {
	t.Helper()
	d, o := base.Copy(), base.Copy()
	return &pair{model: &model{t: t, v: mounts(t, o)}, v: mounts(t, d), d: d, o: o}
}

func (p *pair) same(what string, e, want api.Errno) api.Errno {
	p.t.Helper()
	if e != want {
		p.t.Fatalf("%s: error %d, want %d", what, e, want)
	}
	return e
}

func (p *pair) make(kind uint8, a api.Label) {
	p.t.Helper()
	i, e := p.v.Make(kind, a)
	k, f := p.model.v.Make(kind, a)
	if i != k || e != f {
		p.t.Fatalf("Make: got %d, error %d; want %d, error %d", i, e, k, f)
	}
}

func (p *pair) add(i int, name string, inode int) api.Errno {
	p.t.Helper()
	x := api.Entry{Name: name, Inode: inode}
	return p.same("Add", dir.Add(p.v, i, x), p.model.add(i, x))
}

func (p *pair) remove(i int, name string) {
	p.t.Helper()
	p.same("Remove", dir.Remove(p.v, i, name), p.model.remove(i, name))
}

func (p *pair) replace(i int, name string, inode int) {
	p.t.Helper()
	x := api.Entry{Name: name, Inode: inode}
	n, e := p.model.replace(i, x)
	replaces(p.t, p.v, i, name, inode, n, e)
}

// scribble writes bytes to an inode without this package; it may lack room for them.
func (p *pair) scribble(i, at int, b []byte) {
	p.t.Helper()
	p.same("Write", file.Write(p.v, i, at, b), file.Write(p.model.v, i, at, b))
}

func (p *pair) resize(i, n int) {
	p.t.Helper()
	p.same("Cut", file.Cut(p.v, i, n), file.Cut(p.model.v, i, n))
}

func (p *pair) drop(i int) {
	p.t.Helper()
	p.same("Drop", file.Drop(p.v, i), file.Drop(p.model.v, i))
}

func (p *pair) begin() {
	p.t.Helper()
	p.same("Begin", p.v.Begin(), p.model.v.Begin())
}

func (p *pair) abort() {
	p.v.Abort()
	p.model.v.Abort()
}

func (p *pair) sync() {
	p.t.Helper()
	p.same("Sync", p.v.Sync(), p.model.v.Sync())
}

// again mounts both volumes once more.
func (p *pair) again() {
	p.t.Helper()
	p.sync()
	p.v, p.model.v = mounts(p.t, p.d), mounts(p.t, p.o)
}

// agrees compares each directory with the model, and then both volumes.
func (p *pair) agrees() {
	p.t.Helper()
	for i := range p.v.Geo().Inodes {
		l, e := p.table(i)
		lists(p.t, p.v, i, l.entries(), e)
		for _, x := range l.entries() {
			finds(p.t, p.v, i, x.Name, x.Inode, api.OK)
		}
		if e == api.OK {
			e = api.ErrNone
		}
		finds(p.t, p.v, i, "nowhere", 0, e)
	}
	samePicture(p.t, pictured(p.v), pictured(p.model.v))
}

// short does one of the things of short runs.
func (p *pair) short(thing, c int) {
	p.t.Helper()
	switch thing {
	case 0, 1, 2:
		p.add(0, string(rune('a'+thing)), c)
	case 3, 4, 5:
		p.remove(0, string(rune('a'+thing-3)))
	case 6, 7:
		p.replace(0, string(rune('a'+thing-6)), 7)
	case 8:
		for k := range 6 {
			p.add(0, name(k), k)
		}
	case 9:
		p.remove(0, name(4))
		p.remove(0, name(5))
	case 10:
		p.add(1, "a", c)
	case 11:
		p.add(2, "a", c)
	case 12:
		p.drop(0)
		p.make(api.KindDir, 6)
	case 13:
		p.begin()
	case 14:
		p.abort()
	case 15:
		p.sync()
	case 16:
		p.resize(0, 192)
	default:
		p.scribble(0, 34, []byte{byte(c)})
	}
}

const shortThings = 18

// All runs of three calls, in volumes with room and with too little of it.
func TestAllShortRunsAsTheModel(t *testing.T) {
	for _, prefix := range [][]int{nil, {8, 0, 1, 15}, {0, 8, 1, 13, 4}} {
		for _, g := range []api.Geo{full(12), full(2)} {
			_, base := mounted(t, g)
			for run := range shortThings * shortThings * shortThings {
				p := newPair(t, base)
				p.make(api.KindDir, 6)
				p.make(api.KindFile, 6)
				p.make(api.KindDir, 6)
				for k, thing := range prefix {
					p.short(thing, 60+k)
				}
				for k, left := 0, run; k < 3; k, left = k+1, left/shortThings {
					p.short(left%shortThings, 1+k)
				}
				p.agrees()
				if t.Failed() {
					t.Fatalf("run %d behind %v", run, prefix)
				}
			}
		}
	}
}

// anyName returns one of a few names, or one that is not valid.
func (x *dice) anyName(few int) string {
	if x.under(20) == 0 {
		return wrongNames[x.under(len(wrongNames))]
	}
	return name(x.under(few))
}

// step does one thing of a long run, in which directories grow or shrink; behind an error everything is undone.
func (x *dice) step(p *pair, labels int, grows bool) {
	p.t.Helper()
	i, few := x.under(p.v.Geo().Inodes), 300
	switch k := x.under(40); {
	case k < 18 && grows || k < 4:
		p.begin()
		if p.add(i, x.anyName(few), x.under(65)) == api.ErrFull {
			p.abort()
		}
	case k < 28:
		p.begin()
		s := x.anyName(few)
		if l, _ := p.table(i); len(l) > 0 && x.under(4) > 0 {
			s = l[len(l)-1-x.under(min(9, len(l)))].Name
		}
		p.remove(i, s)
	case k < 32:
		p.replace(i, x.anyName(few), x.under(65))
	case k < 35:
		p.make(uint8(1+x.under(9)/8), api.Label(3*x.under(labels)))
	case k < 36 && x.under(20) == 0:
		p.drop(i)
	case k < 37 && x.under(4) == 0:
		p.begin()
		p.resize(i, per*x.under(most+1))
	case k < 38:
		p.abort()
	case x.under(2) == 0:
		p.again()
	default:
		p.sync()
	}
}

// Long runs on volumes of several forms, with few labels and with many.
func TestLongRunsAsTheModel(t *testing.T) {
	for k, g := range []api.Geo{roomy, whole, odd, full(8), full(20), full(66)} {
		_, base := mounted(t, g)
		for seed := range 4 {
			x := dice(100*k + seed)
			p := newPair(t, base)
			p.make(api.KindDir, 0)
			fill := x.under(most)
			for c := range fill {
				p.begin()
				if p.add(0, name(c), c%64) == api.ErrFull {
					p.abort()
					break
				}
			}
			for c := range 400 {
				x.step(p, 1+2*seed, c/100%2 == 0)
				if c%20 == 0 {
					p.agrees()
				}
			}
			p.sync()
			p.agrees()
			sameDisk(t, p.d, p.o)
		}
	}
}
