package disk_test

import (
	"bytes"
	"slices"
	"testing"

	"moat/api"
	"moat/disk"
)

// A model keeps no sectors: it works out each from all the writes that ever were, and forgets those that a crash undoes.
type model struct {
	n     int
	made  [][2]int // sectors, and what they were given
	safe  int      // how many of these are safe
	dead  bool
	after int // -1: no cut
	done  int
}

func newModel(n int) *model { return &model{n: n, after: -1} }

func (m *model) at(sector int) int {
	c := 0
	for _, w := range m.made {
		if w[0] == sector {
			c = w[1]
		}
	}
	return c
}

func (m *model) operation() api.Errno {
	m.dead = m.dead || m.after == 0
	if m.dead {
		return api.ErrDead
	}
	m.after = max(m.after-1, -1)
	m.done++
	return api.OK
}

func (m *model) write(sector, c int) api.Errno {
	if sector < 0 || sector >= m.n {
		return api.ErrArg
	}
	e := m.operation()
	if e == api.OK {
		m.made = append(m.made, [2]int{sector, c})
	}
	return e
}

func (m *model) flush() api.Errno {
	e := m.operation()
	if e == api.OK {
		m.safe = len(m.made)
	}
	return e
}

func (m *model) cut(after int) {
	if !m.dead {
		m.after = max(after, -1)
	}
}

func (m *model) crash(there uint64) {
	kept := slices.Clone(m.made[:m.safe])
	for bit, w := range m.made[m.safe:] {
		half := there
		for range bit % 64 {
			half /= 2
		}
		if half%2 == 1 {
			kept = append(kept, w)
		}
	}
	m.made, m.safe, m.dead, m.after = kept, len(kept), false, -1
}

func (m *model) copied() *model {
	c := *m
	c.made = slices.Clone(m.made)
	return &c
}

// matches compares all that a disk tells with its model.
func matches(t *testing.T, d *disk.Disk, m *model) {
	t.Helper()
	stands(t, d, m.dead, m.done)
	shut(t, d, -1, api.ErrArg)
	shut(t, d, m.n, api.ErrArg)
	if d.Len() != m.n {
		t.Errorf("Len: got %d, want %d", d.Len(), m.n)
	}
	for i := range m.n {
		if m.dead {
			shut(t, d, i, api.ErrDead)
		} else {
			holds(t, d, i, m.at(i))
		}
	}
}

// All sequences of five operations on two sectors, with each cut and each crash.
func TestAllShortRunsAsTheModel(t *testing.T) {
	for run := range 3 * 3 * 3 * 3 * 3 {
		for after := -1; after <= 5; after++ {
			d, m := newDisk(t, 2), newModel(2)
			d.Cut(after)
			m.cut(after)
			for n, left := 0, run; n < 5; n, left = n+1, left/3 {
				if left%3 == 2 {
					flushes(t, d, m.flush())
				} else {
					writes(t, d, left%3, n+1, m.write(left%3, n+1))
				}
			}
			matches(t, d, m)
			for there := range uint64(32) {
				c, o := d.Copy(), m.copied()
				c.Crash(there)
				o.crash(there)
				matches(t, c, o)
			}
			matches(t, d, m)
		}
	}
}

// dice are numbers that look like no rule, and are the same each time.
type dice uint64

func (x *dice) under(n int) int {
	*x = *x*6364136223846793005 + 1442695040888963407
	return int(uint64(*x) >> 33 % uint64(n))
}

// step does one thing to a disk and to its model.
func (x *dice) step(t *testing.T, d *disk.Disk, m *model, c int) {
	switch k := x.under(40); {
	case k < 30:
		at := x.under(m.n+2) - 1
		writes(t, d, at, c, m.write(at, c))
	case k < 32:
		flushes(t, d, m.flush())
	case k < 34:
		after := x.under(12) - 2
		d.Cut(after)
		m.cut(after)
	case k < 36:
		there := uint64(x.under(1<<31))<<33 ^ uint64(x.under(1<<31))<<11 ^ uint64(x.under(1<<31))
		d.Crash(there)
		m.crash(there)
	default:
		wrong := wrongPatches(m.n)
		if e := d.Write(wrong[x.under(len(wrong))]); e != api.ErrArg {
			t.Errorf("Write of a wrong patch: error %d", e)
		}
	}
}

// Several disks, copies of one another, each of which goes its own way.
func TestLongRunsAsTheModel(t *testing.T) {
	for seed := range 30 {
		x := dice(seed)
		disks, models := make([]*disk.Disk, 3), make([]*model, 3)
		for i := range disks {
			disks[i], models[i] = newDisk(t, 3+seed%5), newModel(3+seed%5)
		}
		for c := range 400 {
			i := x.under(3)
			if x.under(50) == 0 {
				from := x.under(3)
				disks[i], models[i] = disks[from].Copy(), models[from].copied()
			}
			x.step(t, disks[i], models[i], c+1)
			for j := range disks {
				matches(t, disks[j], models[j])
			}
		}
	}
}

// Many writes between two crashes, so that the bits go round on sectors written again and again.
func TestLongRunsBetweenCrashesAsTheModel(t *testing.T) {
	for seed := range 20 {
		x := dice(1000 + seed)
		d, m := newDisk(t, 9), newModel(9)
		for range 5 {
			for c := range 60 + x.under(200) {
				at := x.under(9)
				writes(t, d, at, c+1, m.write(at, c+1))
			}
			there := uint64(x.under(1<<31))<<33 ^ uint64(x.under(1<<31))
			there &= uint64(x.under(1<<31))<<33 ^ uint64(x.under(1<<31))<<16
			if seed%2 == 0 {
				off(t, d)
			}
			d.Crash(there)
			m.crash(there)
			matches(t, d, m)
		}
	}
}

func TestSameCallsLeaveTheSameSectors(t *testing.T) {
	run := func() []byte {
		x := dice(77)
		d, m := newDisk(t, 5), newModel(5)
		for c := range 1000 {
			x.step(t, d, m, c+1)
		}
		d.Crash(0x5555555555555555)
		var l []byte
		for i := range 5 {
			b, _ := d.Read(i)
			a, _ := d.Tag(i)
			l = append(append(l, b...), byte(a), byte(a>>8))
		}
		return l
	}
	if one := run(); !bytes.Equal(one, run()) || len(one) != 5*66 {
		t.Errorf("the same calls left other sectors")
	}
}
