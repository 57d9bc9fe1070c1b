package proc_test

import (
	"slices"
	"testing"

	"moat/api"
	"moat/proc"
)

// An opened is an open file, with whose it is.
type opened struct{ p, fd, inode, at int }

// A model has all open files in one list, and the categories of each process.
type model struct {
	categories [][]int
	open       []opened
}

func newModel(n int) *model { return &model{categories: make([][]int, n)} }

// A request is a call with what it is given; what a call does not need is 0.
type request struct{ call, p, n, at int }

const (
	callLabel = iota
	callRaise
	callOpen
	callClose
	callFd
	callMove
	callHolds
	calls // how many there are
)

// A reply is what a call answers.
type reply struct {
	n int
	f api.Fd
	e api.Errno
}

func (q request) ask(x *proc.Table) reply {
	var r reply
	switch q.call {
	case callLabel:
		var a api.Label
		a, r.e = x.Label(q.p)
		r.n = int(a)
	case callRaise:
		r.e = x.Raise(q.p, api.Label(q.n))
	case callOpen:
		r.n, r.e = x.Open(q.p, q.n)
	case callClose:
		r.n, r.e = x.Close(q.p, q.n)
	case callFd:
		r.f, r.e = x.Fd(q.p, q.n)
	case callMove:
		r.e = x.Move(q.p, q.n, q.at)
	default:
		r.n = x.Holds(q.n)
	}
	return r
}

// answer is what the chapter asks for.
func (m *model) answer(q request) reply {
	if q.call == callHolds {
		return reply{n: len(m.those(func(o opened) bool { return o.inode == q.n }))}
	}
	if q.p < 0 || q.p >= len(m.categories) {
		return reply{e: api.ErrArg}
	}
	switch q.call {
	case callLabel:
		n := 0
		for _, k := range m.categories[q.p] {
			n += 1 << k
		}
		return reply{n: n}
	case callRaise:
		return m.raise(q.p, q.n)
	case callOpen:
		return m.opening(q.p, q.n)
	}
	i := slices.IndexFunc(m.open, func(o opened) bool { return o.p == q.p && o.fd == q.n })
	if i < 0 {
		return reply{e: api.ErrNone}
	}
	o := m.open[i]
	switch {
	case q.call == callClose:
		m.open = slices.Delete(m.open, i, i+1)
		return reply{n: o.inode}
	case q.call == callFd:
		return reply{f: api.Fd{Inode: o.inode, At: o.at}}
	case q.at < 0 || q.at > 3840:
		return reply{e: api.ErrArg}
	}
	m.open[i].at = q.at
	return reply{}
}

func (m *model) those(are func(opened) bool) []opened {
	return slices.DeleteFunc(slices.Clone(m.open), func(o opened) bool { return !are(o) })
}

func (m *model) raise(p, label int) reply {
	var l []int
	for k := range 16 {
		if label>>k%2 == 1 {
			l = append(l, k)
		}
	}
	for _, k := range m.categories[p] {
		if !slices.Contains(l, k) {
			return reply{e: api.ErrFlow}
		}
	}
	m.categories[p] = l
	return reply{}
}

func (m *model) opening(p, inode int) reply {
	mine := m.those(func(o opened) bool { return o.p == p })
	switch {
	case inode < 0 || inode > 63:
		return reply{e: api.ErrArg}
	case len(mine) == 8:
		return reply{e: api.ErrFull}
	}
	fd := 0
	for slices.ContainsFunc(mine, func(o opened) bool { return o.fd == fd }) {
		fd++
	}
	m.open = append(m.open, opened{p, fd, inode, 0})
	return reply{n: fd}
}

func answers(t *testing.T, x *proc.Table, m *model, q request) {
	t.Helper()
	if r, want := q.ask(x), m.answer(q); r != want {
		t.Fatalf("%v: got %v, want %v", q, r, want)
	}
}

// matches compares all that a table tells with its model.
func matches(t *testing.T, x *proc.Table, m *model) {
	t.Helper()
	for p := range len(m.categories) + 1 {
		answers(t, x, m, request{call: callLabel, p: p})
		for fd := -1; fd < 9; fd++ {
			answers(t, x, m, request{call: callFd, p: p, n: fd})
		}
	}
	for i := -1; i < 65; i++ {
		answers(t, x, m, request{call: callHolds, n: i})
	}
}

// All runs of four calls of two processes.
func TestAllShortRunsAsTheModel(t *testing.T) {
	var l []request
	for p := range 2 {
		for n := range 2 {
			l = append(l, request{callOpen, p, 62 + n, 0}, request{callClose, p, n, 0}, request{callMove, p, n, 3840 - n}, request{callRaise, p, 1 + n, 0})
		}
		l = append(l, request{callRaise, p, 3, 0})
	}
	all := len(l) * len(l) * len(l) * len(l)
	for run := range all {
		x, m := newTable(t, 2), newModel(2)
		for left := run + all; left >= len(l); left /= len(l) {
			answers(t, x, m, l[left%len(l)])
		}
		matches(t, x, m)
	}
}

// dice are numbers that look like no rule, and are the same each time.
type dice uint64

func (x *dice) under(n int) int {
	*x = *x*6364136223846793005 + 1442695040888963407
	return int(uint64(*x) >> 33 % uint64(n))
}

func (x *dice) from(l []int) int { return l[x.under(len(l))] }

// number is below n, or else one of those that are wrong.
func (x *dice) number(n int, wrong []int) int {
	if x.under(12) == 0 {
		return x.from(wrong)
	}
	return x.under(n)
}

// label has few categories, or the first ones, to which many labels flow, or all but one.
func (x *dice) label() int {
	switch k := x.under(17); x.under(9) {
	case 0, 1, 2:
		return 1 << k >> 1
	case 3, 4:
		return 1<<x.under(16) | 1<<x.under(16)
	case 5:
		return 65535 &^ (1 << k)
	default:
		return 1<<k - 1
	}
}

// request is any call on a table of n processes.
func (x *dice) request(n int) request {
	q := request{call: x.under(calls), p: x.number(n, []int{-1, n, n + 1, 8})}
	switch q.call {
	case callRaise:
		q.n = x.label()
	case callOpen, callHolds:
		q.n = x.number(64, wrongInodes)
		if x.under(3) == 0 {
			q.n = x.under(4)
		}
	default:
		q.n, q.at = x.number(8, wrongFds), x.number(3841, wrongPlaces)
	}
	return q
}

func TestLongRunsAsTheModel(t *testing.T) {
	for n := 1; n <= 8; n++ {
		for seed := range 6 {
			r := dice(10*n + seed)
			x, m := newTable(t, n), newModel(n)
			for range 600 {
				q := r.request(n)
				if q.call == callClose && r.under(3) == 0 {
					q.call = callOpen
				}
				answers(t, x, m, q)
				if r.under(4) == 0 {
					matches(t, x, m)
				}
			}
		}
	}
}

// A call that returns an error has changed nothing.
func TestErrorsChangeNothing(t *testing.T) {
	count := map[api.Errno]int{}
	for seed := range 20 {
		r := dice(500 + seed)
		x := newTable(t, 3)
		for range 400 {
			q := r.request(3)
			was := viewOf(x)
			if r.under(8) == 0 {
				q.call = callOpen
			}
			a := q.ask(x)
			if a.e == api.OK {
				continue
			}
			count[a.e]++
			if a != (reply{e: a.e}) || viewOf(x) != was {
				t.Fatalf("%v: got %v, and something changed or was answered", q, a)
			}
		}
	}
	for _, e := range []api.Errno{api.ErrArg, api.ErrNone, api.ErrFull, api.ErrFlow} {
		if count[e] < 20 {
			t.Errorf("error %d came up %d times", e, count[e])
		}
	}
}

// The same calls answer the same.
func TestSameCallsSameAnswers(t *testing.T) {
	run := func() ([]reply, view) {
		r := dice(77)
		x := newTable(t, 4)
		var l []reply
		for range 1000 {
			l = append(l, r.request(4).ask(x))
		}
		return l, viewOf(x)
	}
	l, v := run()
	if again, w := run(); !slices.Equal(l, again) || v != w {
		t.Errorf("the same calls answered otherwise")
	}
}

// P19.3

// What a process is answered does not depend on the calls of others: only Holds tells of them.
func TestProcessesDoNotAffectOthers(t *testing.T) {
	for eye := range 8 {
		for seed := range 5 {
			r := dice(1000 + 10*eye + seed)
			all, alone := newTable(t, 8), newTable(t, 8)
			others := 0
			for range 3000 {
				q := r.request(8)
				if r.under(4) == 0 {
					q.p = eye
				}
				if q.call == callHolds {
					continue
				}
				a := q.ask(all)
				if q.p != eye {
					if a.e == api.OK {
						others++
					}
					continue
				}
				if b := q.ask(alone); a != b {
					t.Fatalf("%v: got %v, and %v without the calls of others", q, a, b)
				}
			}
			v, w := viewOf(all), viewOf(alone)
			if v.labels[eye] != w.labels[eye] || v.files[eye] != w.files[eye] || v.missing[eye] != w.missing[eye] {
				t.Errorf("process %d has something else than without the calls of others", eye)
			}
			if others < 300 {
				t.Errorf("only %d calls of others", others)
			}
		}
	}
}

// Whatever is called: no category is lost, and only Raise of that process adds one.
func TestLabelsLoseNoCategory(t *testing.T) {
	raised := 0
	for seed := range 40 {
		r := dice(2000 + seed)
		n := 1 + seed%8
		x := newTable(t, n)
		was := viewOf(x).labels
		for range 300 {
			q := r.request(n)
			a := q.ask(x)
			is := viewOf(x).labels
			for p := range n {
				may := q.call == callRaise && q.p == p && a.e == api.OK
				if !flows(was[p], is[p]) || !may && is[p] != was[p] || may && is[p] != api.Label(q.n) {
					t.Fatalf("%v: label of process %d was %d and is %d", q, p, was[p], is[p])
				}
				if is[p] != was[p] {
					raised++
				}
			}
			was = is
		}
	}
	if raised < 100 {
		t.Errorf("labels were raised %d times", raised)
	}
}
