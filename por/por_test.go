package por

import (
	"cmp"
	"math"
	"slices"
	"strconv"
	"strings"
	"testing"

	"detent/api"
)

var bothOrders = []bool{false, true}

// outside are neither tasks nor priorities. Many of them differ from one inside by a power of two.
var outside = []int{
	math.MinInt, math.MinInt + 1, -1 << 32, -1<<32 + 1, math.MinInt32, -256, -17, -16, -2, -1, 0,
	17, 18, 32, 33, 256, 257, 1<<16 + 1, math.MaxInt32, 1 << 32, 1<<32 + 1, math.MaxInt - 1, math.MaxInt,
}

// noMosts are below 0 or above 1024.
var noMosts = []int{
	math.MinInt, math.MinInt + 1, -1 << 32, -1<<32 + 1, math.MinInt32, -1025, -1024, -1023, -2, -1,
	1025, 1026, 2048, 1 << 16, 1<<16 + 1, math.MaxInt32, 1 << 32, 1<<32 + 1, math.MaxInt - 1, math.MaxInt,
}

const (
	high = uint32(1) << 31
	all  = ^uint32(0)
)

// asker is a task that waits at a port; an acceptor has no message.
type asker struct {
	task, pri int
	bits      uint32
	msg       string
}

// meeting is a rendezvous that is not over.
type meeting struct {
	no     int
	caller asker
}

// model is the chapter's port in its plainest form: those who wait stand in the order in which they came, and the callers are sorted when they are asked for.
type model struct {
	byPri              bool
	most               int
	callers, acceptors []asker
	open               []meeting
	last               int
}

func inside(n int) bool { return n >= 1 && n <= 16 }

func (m *model) calling() []asker {
	row := slices.Clone(m.callers)
	if m.byPri {
		slices.SortStableFunc(row, func(a, b asker) int { return cmp.Compare(a.pri, b.pri) })
	}
	return row
}

func has(row []asker, task int) bool {
	return slices.ContainsFunc(row, func(a asker) bool { return a.task == task })
}

func without(row []asker, task int) []asker {
	return slices.DeleteFunc(slices.Clone(row), func(a asker) bool { return a.task == task })
}

func (m *model) meets(task int) bool {
	return slices.ContainsFunc(m.open, func(r meeting) bool { return r.caller.task == task })
}

func (m *model) here(task int) bool {
	return has(m.callers, task) || has(m.acceptors, task) || m.meets(task)
}

func (m *model) refusal(a asker) api.Code {
	if a.bits == 0 || len(a.msg) > m.most || !inside(a.task) || !inside(a.pri) {
		return api.Par
	}
	if m.here(a.task) {
		return api.Obj
	}
	return api.OK
}

func (m *model) begin(caller asker, other int) answer {
	m.last++
	m.open = append(m.open, meeting{m.last, caller})
	return met(m.last, other, caller.msg)
}

func (m *model) call(a asker) answer {
	if code := m.refusal(a); code != api.OK {
		return refused(code)
	}
	for _, other := range m.acceptors {
		if other.bits&a.bits != 0 {
			m.acceptors = without(m.acceptors, other.task)
			return m.begin(a, other.task)
		}
	}
	m.callers = append(m.callers, a)
	return waits
}

func (m *model) accept(a asker) answer {
	if code := m.refusal(a); code != api.OK {
		return refused(code)
	}
	for _, other := range m.calling() {
		if other.bits&a.bits != 0 {
			m.callers = without(m.callers, other.task)
			return m.begin(other, other.task)
		}
	}
	m.acceptors = append(m.acceptors, a)
	return waits
}

func (m *model) at(no int) int {
	return slices.IndexFunc(m.open, func(r meeting) bool { return r.no == no })
}

func (m *model) reply(no int, msg string) over {
	place := m.at(no)
	if place < 0 {
		return over{code: api.Obj}
	}
	if len(msg) > m.most {
		return over{code: api.Par}
	}
	caller := m.open[place].caller
	m.open = slices.Delete(m.open, place, place+1)
	return over{task: caller.task}
}

func (m *model) forward(no int, to port, bits uint32, msg string) answer {
	there := to.(*model)
	place := m.at(no)
	if place < 0 {
		return refused(api.Obj)
	}
	if bits == 0 || len(msg) > there.most {
		return refused(api.Par)
	}
	caller := m.open[place].caller
	if there != m && there.here(caller.task) {
		return refused(api.Obj)
	}
	m.open = slices.Delete(m.open, place, place+1)
	return there.call(asker{caller.task, caller.pri, bits, msg})
}

func (m *model) drop(task int) bool {
	here := m.here(task)
	m.callers, m.acceptors = without(m.callers, task), without(m.acceptors, task)
	m.open = slices.DeleteFunc(m.open, func(r meeting) bool { return r.caller.task == task })
	return here
}

func (m *model) rows() rows {
	var open []int
	for _, r := range m.open {
		open = append(open, r.no)
	}
	return rows{ids(m.calling()), ids(m.acceptors), open}
}

func (m *model) apart() port {
	c := *m
	c.callers, c.acceptors, c.open = slices.Clone(m.callers), slices.Clone(m.acceptors), slices.Clone(m.open)
	return &c
}

func (m *model) another() port { return &model{byPri: true} }

func ids(row []asker) []int {
	var ids []int
	for _, a := range row {
		ids = append(ids, a.task)
	}
	return ids
}

// told is a row of numbers in a form that can be compared: 2 1 3.
func told(row []int) string {
	var parts []string
	for _, n := range row {
		parts = append(parts, strconv.Itoa(n))
	}
	return strings.Join(parts, " ")
}

// answer is what Call, Accept and Forward return, over what Reply does.
type answer struct {
	no, task int
	msg      string
	ok       bool
	code     api.Code
}

type over struct {
	task int
	code api.Code
}

var waits = answer{}

func met(no, task int, msg string) answer { return answer{no: no, task: task, msg: msg, ok: true} }

func refused(code api.Code) answer { return answer{code: code} }

func (a answer) told() string {
	return told([]int{a.no, a.task, int(a.code)}) + strconv.Quote(a.msg)
}

// rows are what Callers, Acceptors and Open return.
type rows struct{ callers, acceptors, open []int }

// port is a Port or a model.
type port interface {
	call(a asker) answer
	accept(a asker) answer
	reply(no int, msg string) over
	forward(no int, to port, bits uint32, msg string) answer
	drop(task int) bool
	rows() rows
	apart() port   // a copy that goes its own way
	another() port // an empty one by priority, for messages of no byte
}

// real is a Port. It is made of values alone, so that a copy of it is a port of its own; one of which that does not hold would not get through these tests.
type real struct{ p *Port }

func (r real) call(a asker) answer {
	return answered(r.p.Call(a.task, a.pri, a.bits, []byte(a.msg)))
}

func (r real) accept(a asker) answer { return answered(r.p.Accept(a.task, a.pri, a.bits)) }

func (r real) reply(no int, msg string) over {
	task, code := r.p.Reply(no, []byte(msg))
	return over{task, code}
}

func (r real) forward(no int, to port, bits uint32, msg string) answer {
	return answered(r.p.Forward(no, to.(real).p, bits, []byte(msg)))
}

func (r real) drop(task int) bool { return r.p.Drop(task) }

func (r real) rows() rows { return rows{r.p.Callers(), r.p.Acceptors(), r.p.Open()} }

func (r real) apart() port {
	c := *r.p
	return real{&c}
}

func (r real) another() port {
	p, _ := New(true, 0)
	return real{p}
}

func answered(m Met, code api.Code) answer {
	return answer{m.No, m.Task, string(m.Msg), m.OK, code}
}

// view is all that can be observed of a port: its rows, whom later acceptors and callers of several bits would meet, with which numbers and messages, where one more caller would stand, and with which priorities callers come from it to another port.
type view struct {
	callers, acceptors, open string
	accepted, called, places string
	carried                  string
}

func viewed(p port) view {
	r := p.rows()
	v := view{callers: told(r.callers), acceptors: told(r.acceptors), open: told(r.open)}
	idle, base := room(p)
	for _, bits := range []uint32{1, 2, 4, high, all} {
		c := base.apart()
		a := c.accept(asker{idle, 1, bits, ""})
		for ; a.ok; a = c.accept(asker{idle, 1, bits, ""}) {
			v.accepted += a.told()
		}
		v.accepted += a.told() + "/"
		if bits == all {
			v.carried = carried(c)
		}
		c = base.apart()
		for a = c.call(asker{idle, 1, bits, ""}); a.ok; a = c.call(asker{idle, 1, bits, ""}) {
			v.called += a.told()
			c.drop(idle)
		}
		v.called += a.told() + "/"
		if bits == all && len(r.callers) > 0 {
			v.places = places(c, idle)
		}
	}
	return v
}

// room is a task that is not at the port, and a copy of the port, from which it left if there was no other one.
func room(p port) (int, port) {
	r := p.rows()
	here := append(r.callers, r.acceptors...)
	for _, no := range r.open {
		here = append(here, p.apart().reply(no, "").task)
	}
	c := p.apart()
	for task := 1; task <= 16; task++ {
		if !slices.Contains(here, task) {
			return task, c
		}
	}
	c.drop(16)
	return 16, c
}

// places are those of a caller among the others, by its priority.
func places(p port, caller int) string {
	row := ""
	for _, pri := range []int{1, 2, 3, 5, 9, 16} {
		c := p.apart()
		c.drop(caller)
		c.call(asker{caller, pri, 1, ""})
		row += told([]int{slices.Index(c.rows().callers, caller)}) + " "
	}
	return row
}

// carried are the callers in rendezvous, each with the place that it takes in another port among 15 callers of the priorities from 1 to 15.
func carried(p port) string {
	row := ""
	for _, no := range p.rows().open {
		caller := p.apart().reply(no, "").task
		to := p.another()
		for pri := 1; pri <= 15; pri++ {
			to.call(asker{(caller+pri-1)%16 + 1, pri, 1, ""})
		}
		p.apart().forward(no, to, 1, "")
		row += told([]int{no, caller, slices.Index(to.rows().callers, caller)}) + "/"
	}
	return row
}

// both is a port beside its model: each call is made on the two, the answers are held against each other, and then all that can be observed.
type both struct {
	t    *testing.T
	real *Port
	want *model
}

func made(t *testing.T, byPri bool, most int) *both {
	t.Helper()
	p, code := New(byPri, most)
	if p == nil || code != api.OK {
		t.Fatalf("P1701: New(%v, %d) is %v, %v", byPri, most, p, code)
	}
	b := &both{t, p, &model{byPri: byPri, most: most}}
	b.state()
	return b
}

// is holds an answer against one that the test itself writes.
func is[T comparable](t *testing.T, what string, got, want T) {
	t.Helper()
	if got != want {
		t.Errorf("P1701: %s is %#v, not %#v", what, got, want)
	}
}

// roomy is a message with capacity behind it, and spoilt writes all over that afterwards; it tells if the port had done so itself.
func roomy(msg string) []byte {
	b := make([]byte, len(msg), len(msg)+24)
	copy(b, msg)
	return b
}

func spoilt(t *testing.T, sent []byte, msg string) {
	t.Helper()
	if string(sent) != msg || strings.Trim(string(sent[len(sent):cap(sent)]), "\x00") != "" {
		t.Errorf("P2: the slice that was handed in is %q now", sent[:cap(sent)])
	}
	spoil(sent)
}

func spoil[T byte | int](row []T) {
	row = row[:cap(row)]
	for i := range row {
		row[i] = 77
	}
}

func (b *both) call(task, pri int, bits uint32, msg string) answer {
	b.t.Helper()
	slice := roomy(msg)
	m, code := b.real.Call(task, pri, bits, slice)
	spoilt(b.t, slice, msg)
	got := answered(m, code)
	spoil(m.Msg)
	is(b.t, "Call", got, b.want.call(asker{task, pri, bits, msg}))
	b.state()
	return got
}

func (b *both) accept(task, pri int, bits uint32) answer {
	b.t.Helper()
	m, code := b.real.Accept(task, pri, bits)
	got := answered(m, code)
	spoil(m.Msg)
	is(b.t, "Accept", got, b.want.accept(asker{task, pri, bits, ""}))
	b.state()
	return got
}

func (b *both) reply(no int, msg string) over {
	b.t.Helper()
	slice := roomy(msg)
	task, code := b.real.Reply(no, slice)
	spoilt(b.t, slice, msg)
	got := over{task, code}
	is(b.t, "Reply", got, b.want.reply(no, msg))
	b.state()
	return got
}

func (b *both) forward(no int, to *both, bits uint32, msg string) answer {
	b.t.Helper()
	slice := roomy(msg)
	m, code := b.real.Forward(no, to.real, bits, slice)
	spoilt(b.t, slice, msg)
	got := answered(m, code)
	spoil(m.Msg)
	is(b.t, "Forward", got, b.want.forward(no, to.want, bits, msg))
	b.state()
	to.state()
	return got
}

func (b *both) drop(task int) bool {
	b.t.Helper()
	got := b.real.Drop(task)
	is(b.t, "Drop", got, b.want.drop(task))
	b.state()
	return got
}

func (b *both) state() {
	b.t.Helper()
	if got, want := viewed(real{b.real}), viewed(b.want); got != want {
		b.t.Errorf("P1701: the port is %#v, not %#v", got, want)
	}
}

func (b *both) view() view { return viewed(real{b.real}) }

// holds is of what the port tells.
func (b *both) holds(callers, acceptors, open string) {
	b.t.Helper()
	is(b.t, "Callers", told(b.real.Callers()), callers)
	is(b.t, "Acceptors", told(b.real.Acceptors()), acceptors)
	is(b.t, "Open", told(b.real.Open()), open)
}

// calls lets these wait as callers, and accepts lets these wait as acceptors.
func (b *both) calls(all ...asker) *both {
	b.t.Helper()
	for _, a := range all {
		is(b.t, "Call of one who meets nobody", b.call(a.task, a.pri, a.bits, a.msg), waits)
	}
	return b
}

func (b *both) accepts(all ...asker) *both {
	b.t.Helper()
	for _, a := range all {
		is(b.t, "Accept of one who meets nobody", b.accept(a.task, a.pri, a.bits), waits)
	}
	return b
}

// meets lets these call and be accepted, one after the other, so that there are as many rendezvous.
func (b *both) meets(all ...asker) *both {
	b.t.Helper()
	for _, a := range all {
		b.calls(a)
		is(b.t, "Accept", b.accept(acceptor, 16, a.bits).task, a.task)
	}
	return b
}

// acceptor is the one with whom these tests let others meet, which is not here any more then.
const acceptor = 15

// text is a message of n bytes, of which no two neighbours are equal; with n above 255 it has each byte there is.
func text(first, n int) string {
	b := make([]byte, n)
	for i := range b {
		b[i] = byte(first + 7*i)
	}
	return string(b)
}

// five are callers, or acceptors, in the order in which they come, each with a bit of its own and one that all have in common.
var five = []asker{{3, 5, 0x10001, "c"}, {1, 2, 0x20001, "a"}, {4, 5, 0x40001, "dd"}, {16, 1, 0x80001, ""}, {2, 2, 0x100001, "b"}}

// fiveInOrder are the five in their order, by byPri.
var fiveInOrder = map[bool][]int{false: {3, 1, 4, 16, 2}, true: {16, 1, 2, 3, 4}}

// whose is that one of the five.
func whose(task int) asker {
	return five[slices.IndexFunc(five, func(a asker) bool { return a.task == task })]
}

// own is the bit that only that one of the five has.
func own(task int) uint32 { return whose(task).bits &^ 1 }

// scenes are ports in which there is something: nobody, callers, acceptors, rendezvous, and all of them at once, where the callers and the acceptors do not match.
func scenes(t *testing.T, byPri bool, most int) []*both {
	t.Helper()
	mixed := made(t, byPri, most).meets(asker{5, 3, 1, "m"}, asker{6, 3, 2, "mm"}).calls(five...)
	return []*both{
		made(t, byPri, most),
		made(t, byPri, most).calls(five...),
		made(t, byPri, most).accepts(five...),
		made(t, byPri, most).meets(five...),
		mixed.accepts(asker{7, 1, 4, ""}, asker{8, 1, 8, ""}),
	}
}

func TestTheLimits(t *testing.T) {
	if api.MaxTasks != 16 || api.MaxPri != 16 || api.MaxMsg != 1024 {
		t.Fatal("the tests speak of 16 tasks, 16 priorities and messages of 1024 bytes")
	}
}

func TestTheChaptersExample(t *testing.T) {
	b := made(t, true, 8)
	is(t, "Call", b.call(1, 5, 1, "one"), waits)
	is(t, "Call", b.call(2, 3, 6, "two"), waits)
	b.holds("2 1", "", "")
	is(t, "a second Call", b.call(1, 5, 1, "one"), refused(api.Obj))
	b.holds("2 1", "", "")
}

func TestNew(t *testing.T) {
	for _, byPri := range bothOrders {
		for _, most := range []int{0, 1, 2, 8, 1023, 1024} {
			b := made(t, byPri, most)
			b.holds("", "", "")
			is(t, "Call with a byte too many", b.call(1, 1, 1, text(1, most+1)), refused(api.Par))
			is(t, "Call with most bytes", b.call(1, 1, 1, text(1, most)), waits)
			is(t, "Accept", b.accept(2, 1, 1), met(1, 1, text(1, most)))
			is(t, "Reply with a byte too many", b.reply(1, text(2, most+1)), over{code: api.Par})
			is(t, "Reply with most bytes", b.reply(1, text(2, most)), over{task: 1})
		}
	}
}

func TestNewRefuses(t *testing.T) {
	for _, byPri := range bothOrders {
		for _, most := range noMosts {
			if p, code := New(byPri, most); p != nil || code != api.Par {
				t.Errorf("P1701: New(%v, %d) is %v, %v", byPri, most, p, code)
			}
		}
	}
}

// Two ports that were made alike have nothing in common: neither tasks nor numbers.
func TestPortsAreTheirOwn(t *testing.T) {
	a, b := made(t, true, 8), made(t, true, 8)
	a.meets(asker{1, 5, 1, "a"}, asker{2, 5, 1, "a"})
	a.calls(asker{3, 5, 1, "a"}).accepts(asker{4, 5, 2, ""})
	b.state()
	b.holds("", "", "")
	b.calls(asker{1, 5, 2, "b"}, asker{2, 5, 2, "b"}, asker{3, 5, 2, "b"}, asker{4, 5, 2, "b"})
	is(t, "Accept", b.accept(4+5, 1, 2), met(1, 1, "b"))
	is(t, "Drop", b.drop(3), true)
	a.state()
	a.holds("3", "4", "1 2")
}

// A caller meets one who waits to accept, and one who accepts meets a caller who waits, with the message whole.
func TestMessagesOfEveryLength(t *testing.T) {
	b := made(t, false, 1024)
	no := 0
	for n := 0; n <= 1024; n++ {
		if n > 40 && n < 1000 && n%37 != 0 {
			continue
		}
		msg := text(n, n)
		b.calls(asker{1, 1, 1, msg})
		no++
		is(t, "Accept", b.accept(2, 1, 1), met(no, 1, msg))
		b.accepts(asker{2, 1, 1, ""})
		no++
		is(t, "Call", b.call(3, 1, 1, msg), met(no, 2, msg))
		is(t, "Reply", b.reply(no, msg), over{task: 3})
		b.accepts(asker{4, 1, 1, ""})
		no++
		is(t, "Forward", b.forward(no-2, b, 1, msg), met(no, 4, msg))
		is(t, "Drop", b.drop(1), true)
	}
}

// A nil message and an empty one are the same: one of no byte.
func TestMessagesOfNoByte(t *testing.T) {
	for _, most := range []int{0, 8} {
		for _, none := range [][]byte{nil, {}, make([]byte, 0, 9)} {
			p, _ := New(true, most)
			p.Call(1, 1, 1, none)
			m, code := p.Accept(2, 1, 1)
			is(t, "Accept", answered(m, code), met(1, 1, ""))
			p.Accept(2, 1, 2)
			m, code = p.Call(3, 1, 2, none)
			is(t, "Call", answered(m, code), met(2, 2, ""))
			p.Accept(4, 1, 4)
			m, code = p.Forward(1, p, 4, none)
			is(t, "Forward", answered(m, code), met(3, 4, ""))
			task, code := p.Reply(3, none)
			is(t, "Reply", over{task, code}, over{task: 1})
		}
	}
}

// Two match if they have a bit in common, whoever of them comes first.
func TestWhoMatches(t *testing.T) {
	pairs := []struct {
		a, b    uint32
		matches bool
	}{
		{1, 1, true}, {1, 2, false}, {1, 3, true}, {2, 3, true}, {3, 5, true}, {3, 12, false}, {5, 10, false}, {6, 12, true},
		{high, high, true}, {high, all, true}, {high, high - 1, false}, {high | 1, high | 2, true}, {high | 1, high - 1, true}, {high | 1, 2, false},
		{all, all, true}, {all, 1, true}, {all, 1 << 16, true}, {all &^ 1, 1, false}, {0x0000ffff, 0xffff0000, false}, {0x0001ffff, 0xffff0000, true},
		{0x55555555, 0xaaaaaaaa, false}, {0x55555555, 0xaaaaaaab, true},
	}
	for i := range 32 {
		for j := range 32 {
			pairs = append(pairs, struct {
				a, b    uint32
				matches bool
			}{1 << i, 1 << j, i == j})
		}
	}
	for _, c := range pairs {
		for _, bits := range [][2]uint32{{c.a, c.b}, {c.b, c.a}} {
			there, comes := bits[0], bits[1]
			want := map[bool]answer{false: waits, true: met(1, 1, "m")}[c.matches]
			p, _ := New(true, 8)
			p.Call(1, 5, there, []byte("m"))
			is(t, "Accept", answered(p.Accept(2, 5, comes)), want)
			p, _ = New(true, 8)
			p.Accept(1, 5, there)
			is(t, "Call", answered(p.Call(2, 5, comes, []byte("m"))), want)
			want.no *= 2
			p, _ = New(true, 8)
			p.Accept(3, 5, all)
			p.Call(2, 5, 1, nil)
			p.Accept(1, 5, there)
			is(t, "Forward", answered(p.Forward(1, p, comes, []byte("m"))), want)
		}
	}
}

func TestTheCallersOrder(t *testing.T) {
	for _, byPri := range bothOrders {
		b := made(t, byPri, 8).calls(five...)
		row := fiveInOrder[byPri]
		b.holds(told(row), "", "")
		for i, task := range row {
			is(t, "Accept of what all have in common", b.accept(9, 1, 1), met(i+1, task, whose(task).msg))
			b.holds(told(row[i+1:]), "", told([]int{1, 2, 3, 4, 5}[:i+1]))
		}
		is(t, "Accept, where nobody calls any more", b.accept(9, 1, 1), waits)
		b.holds("", "9", "1 2 3 4 5")
	}
}

// The order of the acceptors is that in which they came, whatever their priorities and byPri are.
func TestTheAcceptorsOrder(t *testing.T) {
	for _, byPri := range bothOrders {
		b := made(t, byPri, 8).accepts(five...)
		row := fiveInOrder[false]
		b.holds("", told(row), "")
		for i, task := range row {
			is(t, "Call with what all have in common", b.call(5+i, 16-i, 1, "m"), met(i+1, task, "m"))
			b.holds("", told(row[i+1:]), told([]int{1, 2, 3, 4, 5}[:i+1]))
		}
		is(t, "Call, where nobody accepts any more", b.call(3, 1, 1, "m"), waits)
		b.holds("3", "", "1 2 3 4 5")
	}
}

func TestAllTasksAndPriorities(t *testing.T) {
	for _, byPri := range bothOrders {
		calling, accepting := made(t, byPri, 8), made(t, byPri, 8)
		row := make([]int, 16)
		for task := 1; task <= 16; task++ {
			calling.calls(asker{task, 17 - task, 1, ""})
			accepting.accepts(asker{task, 17 - task, 1, ""})
			row[task-1] = task
		}
		accepting.holds("", told(row), "")
		if byPri {
			slices.Reverse(row)
		}
		calling.holds(told(row), "", "")
	}
}

// The first that matches is not the first in the order; those passed over keep their places.
func TestAcceptPassesOver(t *testing.T) {
	for _, byPri := range bothOrders {
		row := fiveInOrder[byPri]
		for i, task := range row {
			b := made(t, byPri, 8).calls(five...)
			is(t, "Accept of one", b.accept(9, 1, own(task)), met(1, task, whose(task).msg))
			rest := slices.Delete(slices.Clone(row), i, i+1)
			b.holds(told(rest), "", "1")
			for k, next := range rest {
				is(t, "Accept of those passed over", b.accept(9, 1, 1), met(k+2, next, whose(next).msg))
			}
		}
		for i, first := range row { // of two that match, the first
			for _, second := range row[i+1:] {
				b := made(t, byPri, 8).calls(five...)
				is(t, "Accept of two", b.accept(9, 1, own(first)|own(second)), met(1, first, whose(first).msg))
				is(t, "Accept of two, after one has gone", b.accept(9, 1, own(first)|own(second)), met(2, second, whose(second).msg))
				is(t, "Accept of two, after both have gone", b.accept(9, 1, own(first)|own(second)), waits)
				is(t, "Call", b.call(first, 1, own(first), "again"), refused(api.Obj))
			}
		}
	}
}

func TestCallPassesOver(t *testing.T) {
	for _, byPri := range bothOrders {
		row := fiveInOrder[false]
		for i, task := range row {
			b := made(t, byPri, 8).accepts(five...)
			is(t, "Call of one", b.call(9, 1, own(task), "m"), met(1, task, "m"))
			rest := slices.Delete(slices.Clone(row), i, i+1)
			b.holds("", told(rest), "1")
			for k, next := range rest {
				is(t, "Call of those passed over", b.call(10+k, 1, 1, "m"), met(k+2, next, "m"))
			}
		}
		for i, first := range row {
			for _, second := range row[i+1:] {
				b := made(t, byPri, 8).accepts(five...)
				is(t, "Call of two", b.call(9, 1, own(first)|own(second), "m"), met(1, first, "m"))
				is(t, "Call of two, after one has gone", b.call(10, 1, own(first)|own(second), "n"), met(2, second, "n"))
				is(t, "Call of two, after both have gone", b.call(11, 1, own(first)|own(second), "o"), waits)
				is(t, "Accept of an acceptor in a rendezvous", b.accept(first, 1, 2), waits)
			}
		}
	}
}

// Callers and acceptors that do not match wait side by side.
func TestBothWait(t *testing.T) {
	for _, byPri := range bothOrders {
		b := made(t, byPri, 8).calls(asker{1, 5, 1, "a"}, asker{2, 3, 2, "b"}).accepts(asker{3, 5, 4, ""}, asker{4, 3, 8, ""})
		b.holds(map[bool]string{false: "1 2", true: "2 1"}[byPri], "3 4", "")
		is(t, "Call", b.call(5, 1, 8|1, "c"), met(1, 4, "c")) // callers do not meet callers
		is(t, "Accept", b.accept(6, 1, 4|1), met(2, 1, "a"))
		b.holds("2", "3", "1 2")
	}
}

// The numbers are 1, 2, 3 and so on; who waits or is refused takes none, and those of rendezvous that are over do not come again.
func TestTheNumbers(t *testing.T) {
	for _, byPri := range bothOrders {
		b := made(t, byPri, 8)
		for n := 1; n <= 40; n++ {
			b.calls(asker{1, 5, 1, "m"})
			is(t, "Call", b.call(1, 5, 1, "m"), refused(api.Obj))
			is(t, "Call", b.call(2, 5, 0, "m"), refused(api.Par))
			b.accepts(asker{3, 5, 2, ""})
			is(t, "Accept", b.accept(3, 5, 1), refused(api.Obj))
			is(t, "Accept", b.accept(2, 5, 1), met(n, 1, "m"))
			b.drop(3)
			b.holds("", "", strconv.Itoa(n))
			if n%3 == 0 {
				is(t, "Drop", b.drop(1), true)
			} else {
				is(t, "Reply", b.reply(n, "r"), over{task: 1})
			}
			b.holds("", "", "")
		}
		b.accepts(asker{1, 5, 1, ""})
		is(t, "Call", b.call(2, 5, 1, "m"), met(41, 1, "m"))
	}
}

// A rendezvous that stays while many others come and go keeps its number.
func TestAnOldNumber(t *testing.T) {
	b := made(t, false, 8).meets(asker{1, 5, 1, "old"}, asker{2, 5, 1, "old"})
	for n := 3; n <= 1003; n++ {
		p := real{b.real}
		p.call(asker{3, 1, 2, ""})
		is(t, "Accept", p.accept(asker{4, 1, 2, ""}), met(n, 3, ""))
		is(t, "Reply", p.reply(n, ""), over{task: 3})
	}
	b.want.last = 1003
	b.state()
	b.holds("", "", "1 2")
	is(t, "Reply of the oldest", b.reply(1, ""), over{task: 1})
	b.calls(asker{1, 5, 1, "new"})
	is(t, "Accept", b.accept(9, 1, 1), met(1004, 1, "new"))
	b.holds("", "", "2 1004")
}

// Whoever is here may neither call nor accept, whatever it is here as.
func TestOneWhoIsHere(t *testing.T) {
	for _, byPri := range bothOrders {
		for i, b := range scenes(t, byPri, 8) {
			before := b.view()
			tasks := fiveInOrder[false]
			if i == 4 {
				tasks = []int{1, 2, 3, 4, 5, 6, 7, 8, 16}
			}
			for _, task := range tasks {
				if i == 0 {
					break
				}
				for _, bits := range []uint32{1, 2, 4, high, all} { // also where it would meet somebody, be it itself
					for pri := 1; pri <= 16; pri += 5 {
						is(t, "Call of one who is here", b.call(task, pri, bits, "m"), refused(api.Obj))
						is(t, "Call of one who is here", b.call(task, pri, bits, "12345678"), refused(api.Obj))
						is(t, "Accept of one who is here", b.accept(task, pri, bits), refused(api.Obj))
					}
				}
			}
			is(t, "the port after that", b.view(), before)
		}
	}
}

// The acceptor in a rendezvous is not here any more: it may accept another one, and may call itself.
func TestTheAcceptorMayGoOn(t *testing.T) {
	for _, byPri := range bothOrders {
		b := made(t, byPri, 8).calls(asker{1, 5, 1, "a"}, asker{2, 5, 1, "b"})
		is(t, "Accept", b.accept(9, 5, 1), met(1, 1, "a"))
		is(t, "Drop of an acceptor in a rendezvous", b.drop(9), false)
		is(t, "Accept of the acceptor", b.accept(9, 5, 1), met(2, 2, "b"))
		is(t, "Accept of the acceptor", b.accept(9, 5, 1), waits)
		b.holds("", "9", "1 2")
		is(t, "Call", b.call(3, 5, 1, "c"), met(3, 9, "c"))
		is(t, "Call of the acceptor", b.call(9, 5, 1, "d"), waits)
		b.holds("9", "", "1 2 3")
		is(t, "Accept", b.accept(8, 5, 1), met(4, 9, "d")) // now it is the caller in one, too
		is(t, "Call of a caller in a rendezvous", b.call(9, 5, 1, "e"), refused(api.Obj))
		is(t, "Reply", b.reply(1, ""), over{task: 1}) // it is here all the same
		is(t, "Accept of a caller in a rendezvous", b.accept(9, 5, 1), refused(api.Obj))
		b.holds("", "", "2 3 4")
	}
}

// Two may be the callers of each other.
func TestTwoWhoCallEachOther(t *testing.T) {
	b := made(t, true, 8).calls(asker{1, 5, 1, "to 2"})
	is(t, "Accept", b.accept(2, 5, 1), met(1, 1, "to 2"))
	is(t, "Call", b.call(2, 5, 2, "to 1"), waits)
	is(t, "Accept of a caller in a rendezvous", b.accept(1, 5, 2), refused(api.Obj))
	is(t, "Reply", b.reply(1, ""), over{task: 1})
	is(t, "Accept", b.accept(1, 5, 2), met(2, 2, "to 1"))
	is(t, "Call", b.call(1, 5, 2, "to 2"), waits)
	b.holds("1", "", "2")
}

// Reply of the first, of the last and of one between others; then the caller may call again, which takes a new number.
func TestReply(t *testing.T) {
	for _, byPri := range bothOrders {
		for no, c := range map[int]struct{ open, again string }{1: {"2 3 4 5", "2 3 4 5 6"}, 3: {"1 2 4 5", "1 2 4 5 6"}, 5: {"1 2 3 4", "1 2 3 4 6"}} {
			b := made(t, byPri, 8).meets(five...)
			b.holds("", "", "1 2 3 4 5")
			caller := five[no-1].task
			is(t, "Reply", b.reply(no, "12345678"), over{task: caller})
			b.holds("", "", c.open)
			is(t, "Reply of one that is over", b.reply(no, ""), over{code: api.Obj})
			b.calls(asker{caller, 5, 1, "again"})
			is(t, "Accept", b.accept(9, 1, 1), met(6, caller, "again"))
			b.holds("", "", c.again)
		}
	}
}

// Whoever was replied to may accept, too.
func TestAcceptAfterAReply(t *testing.T) {
	b := made(t, true, 8).meets(asker{1, 5, 1, "a"})
	is(t, "Reply", b.reply(1, "r"), over{task: 1})
	b.accepts(asker{1, 5, 1, ""})
	is(t, "Call", b.call(2, 5, 1, "b"), met(2, 1, "b"))
}

// Open is ascending in whatever order they end; here all orders of four.
func TestOpenWhereTheyEndOutOfTurn(t *testing.T) {
	for order := range 4 * 4 * 4 * 4 {
		ends := []int{1 + order%4, 1 + order/4%4, 1 + order/16%4, 1 + order/64}
		if sorted := slices.Sorted(slices.Values(ends)); !slices.Equal(sorted, []int{1, 2, 3, 4}) {
			continue
		}
		b := made(t, false, 8).meets(asker{4, 5, 1, ""}, asker{2, 5, 1, ""}, asker{3, 5, 1, ""}, asker{1, 5, 1, ""})
		open := []int{1, 2, 3, 4}
		for i, no := range ends {
			caller := []int{4, 2, 3, 1}[no-1]
			if i == 1 {
				is(t, "Drop of a caller in a rendezvous", b.drop(caller), true)
			} else {
				is(t, "Reply", b.reply(no, ""), over{task: caller})
			}
			b.calls(asker{caller, 5, 1, ""})
			b.accept(9, 1, 1)
			open = append(slices.DeleteFunc(open, func(n int) bool { return n == no }), 5+i)
			b.holds("", "", told(open))
		}
		b.holds("", "", "5 6 7 8")
	}
}

// Forward to the port itself, where an acceptor matches there: the number is the next one, the message the new one.
func TestForwardToThePortItself(t *testing.T) {
	for _, byPri := range bothOrders {
		b := made(t, byPri, 8).meets(asker{1, 5, 1, "old"}, asker{2, 5, 1, "two"}).accepts(asker{7, 5, 2, ""}, asker{8, 5, 4, ""}, asker{6, 5, 4, ""})
		is(t, "Forward", b.forward(1, b, 4, "new"), met(3, 8, "new"))
		b.holds("", "7 6", "2 3")
		is(t, "Reply of the one before", b.reply(1, ""), over{code: api.Obj})
		is(t, "Forward of the one before", b.forward(1, b, 4, ""), refused(api.Obj))
		is(t, "Call of its caller", b.call(1, 5, 1, ""), refused(api.Obj))
		is(t, "Forward, on", b.forward(3, b, 4|2, ""), met(4, 7, ""))
		is(t, "Forward, on and on", b.forward(4, b, all, "12345678"), met(5, 6, "12345678"))
		is(t, "Reply", b.reply(5, "done"), over{task: 1})
		b.holds("", "", "2")
	}
}

// Forward to the port itself, where none matches: the caller waits with the pri that it had, the new bits and the new message.
func TestForwardToThePortItselfWhereNoneMatches(t *testing.T) {
	for _, byPri := range bothOrders {
		b := made(t, byPri, 8).meets(asker{6, 3, 1, "old"}, asker{9, 2, 1, "other"}).calls(five...).accepts(asker{7, 5, 2, ""})
		is(t, "Forward", b.forward(1, b, 4, "new"), waits)
		row := map[bool]string{false: "3 1 4 16 2 6", true: "16 1 2 6 3 4"}[byPri]
		b.holds(row, "7", "2")
		is(t, "Accept of the old bits", b.accept(10, 5, 1).task, fiveInOrder[byPri][0])
		is(t, "Accept of the new bits", b.accept(10, 5, 4), met(4, 6, "new"))
		is(t, "Forward, on", b.forward(4, b, 8, "12345678"), waits)
		is(t, "Drop", b.drop(6), true)
		is(t, "Accept", b.accept(10, 5, 8), waits)
		b.holds(told(fiveInOrder[byPri][1:]), "7 10", "2 3")
	}
}

// Forward to another port has that port's number, and what was here is over here.
func TestForwardToAnotherPort(t *testing.T) {
	for _, byPri := range bothOrders {
		a, b := made(t, byPri, 8), made(t, !byPri, 4)
		a.meets(asker{1, 5, 1, "one"}, asker{2, 6, 1, "two"}, asker{3, 7, 1, "three"}).accepts(asker{10, 1, 2, ""})
		b.accepts(asker{7, 5, 2, ""}, asker{8, 5, 4, ""}, asker{9, 5, 4, ""})
		is(t, "Forward", a.forward(2, b, 4, "next"), met(1, 8, "next"))
		a.holds("", "10", "1 3")
		b.holds("", "7 9", "1")
		is(t, "Call here, where its caller is not any more", a.call(2, 5, 1, "again"), waits)
		is(t, "Call there, where its caller is", b.call(2, 5, 1, "x"), refused(api.Obj))
		is(t, "Forward", a.forward(1, b, 6, ""), met(2, 7, ""))
		is(t, "Forward, where none matches", a.forward(3, b, 1, "abcd"), waits)
		a.holds("2", "10", "")
		b.holds("3", "9", "1 2")
		is(t, "Accept there", b.accept(8, 5, 1), met(3, 3, "abcd"))
		is(t, "Reply there", b.reply(1, "done"), over{task: 2})
		is(t, "Reply here", a.reply(2, "done"), over{code: api.Obj})
	}
}

// Whoever is forwarded comes behind its equals, with the pri that it had here, also if another port was between, and if it waited here before or met at once.
func TestForwardKeepsThePri(t *testing.T) {
	for pri := 1; pri <= 16; pri++ {
		for _, waited := range []bool{false, true} {
			for _, over := range []int{0, 1, 2} {
				from, between, to := made(t, false, 8), made(t, true, 8), made(t, true, 8)
				if waited {
					from.meets(asker{1, pri, 1, "m"})
				} else {
					from.accepts(asker{9, 16, 1, ""})
					is(t, "Call", from.call(1, pri, 1, "m"), met(1, 9, "m"))
				}
				for i := range over { // over 2 it waits there first
					if i == 0 {
						between.accepts(asker{9, 17 - pri, 1, ""})
						is(t, "Forward", from.forward(1, between, 1, "m"), met(1, 9, "m"))
						continue
					}
					is(t, "Forward", between.forward(1, between, 1, "n"), waits)
					is(t, "Accept", between.accept(9, 17-pri, 1), met(2, 1, "n"))
				}
				to.calls(asker{2, 1, 1, ""}, asker{3, 5, 1, ""}, asker{4, 5, 1, ""}, asker{5, 9, 1, ""}, asker{6, 16, 1, ""})
				last := []*both{from, between, between}[over]
				is(t, "Forward", last.forward([]int{1, 1, 2}[over], to, 1, "o"), waits)
				is(t, "Callers", told(to.real.Callers()), placed(pri))
			}
		}
	}
}

// placed is where task 1 comes among callers of the priorities 1, 5, 5, 9 and 16.
func placed(pri int) string {
	switch {
	case pri < 5:
		return "2 1 3 4 5 6"
	case pri < 9:
		return "2 3 4 1 5 6"
	case pri < 16:
		return "2 3 4 5 1 6"
	}
	return "2 3 4 5 6 1"
}

// One goes on over several ports, and to the first again, each time with another message.
func TestForwardOverSeveralPorts(t *testing.T) {
	ports := []*both{made(t, true, 8), made(t, false, 8), made(t, true, 8), made(t, false, 8)}
	ports[0].meets(asker{1, 4, 1, "start"})
	no := 1
	for i := range 12 {
		here, there := ports[i%4], ports[(i+1)%4]
		msg := text(i, i%9)
		next := i/4 + 1 // the first port has one of its own already
		if i%4 == 3 {
			next++
		}
		if i%2 == 0 {
			there.accepts(asker{9, 1, 2, ""})
			is(t, "Forward", here.forward(no, there, 2, msg), met(next, 9, msg))
		} else {
			is(t, "Forward", here.forward(no, there, 2, msg), waits)
			is(t, "Accept", there.accept(9, 1, 2), met(next, 1, msg))
		}
		here.holds("", "", "")
		there.holds("", "", strconv.Itoa(next))
		no = next
	}
	is(t, "Reply", ports[0].reply(no, "12345678"), over{task: 1})
}

// The port to may be for longer messages than this one, or for shorter ones: its most counts.
func TestForwardWithTheMostOfThePortTo(t *testing.T) {
	for _, c := range [][2]int{{0, 8}, {8, 0}, {0, 0}, {1, 1024}, {1024, 1}, {5, 6}, {6, 5}} {
		for _, itself := range []bool{false, true} {
			from, to := made(t, false, c[0]), made(t, true, c[1])
			if itself {
				from = to
			}
			from.meets(asker{1, 5, 1, ""})
			to.accepts(asker{9, 5, 2, ""})
			before, there := from.view(), to.view()
			for _, n := range []int{c[1] + 1, c[1] + 2, c[1] + 256, c[1] + 1024} {
				is(t, "Forward with too many bytes", from.forward(1, to, 2, text(3, n)), refused(api.Par))
				is(t, "Forward with too many bytes, where none matches", from.forward(1, to, 4, text(3, n)), refused(api.Par))
			}
			is(t, "the port after that", from.view(), before)
			is(t, "the port to after that", to.view(), there)
			want := met(1, 9, text(3, c[1]))
			if itself {
				want.no = 2
			}
			is(t, "Forward with most bytes", from.forward(1, to, 2, text(3, c[1])), want)
		}
	}
}

// The caller may be at the port to apart from this rendezvous: as a caller, as an acceptor, or in another rendezvous.
func TestForwardOfOneWhoIsThere(t *testing.T) {
	for _, byPri := range bothOrders {
		for _, there := range []func(to *both){
			func(to *both) { to.calls(asker{1, 5, 1, "t"}) },
			func(to *both) { to.accepts(asker{1, 5, 1, ""}) },
			func(to *both) { to.meets(asker{1, 5, 1, "t"}) },
			func(to *both) { to.calls(asker{1, 5, 1, "t"}).accepts(asker{7, 5, 2, ""}) },
			func(to *both) { to.accepts(asker{1, 5, 1, ""}, asker{7, 5, 2, ""}) },
			func(to *both) { to.meets(asker{1, 5, 1, "t"}).accepts(asker{7, 5, 2, ""}) },
			func(to *both) { to.meets(asker{2, 5, 1, "t"}, asker{1, 5, 1, "t"}) },
		} {
			from, to := made(t, byPri, 8), made(t, byPri, 4)
			from.meets(asker{1, 5, 1, "m"}, asker{2, 5, 1, "m"})
			there(to)
			before, after := from.view(), to.view()
			for _, bits := range []uint32{1, 2, 4, high, all} {
				is(t, "Forward of one who is there", from.forward(1, to, bits, "f"), refused(api.Obj))
				is(t, "Forward of one who is there, with too many bytes", from.forward(1, to, bits, "fffff"), refused(api.Par))
			}
			is(t, "Forward of one who is there, with no bits", from.forward(1, to, 0, "f"), refused(api.Par))
			is(t, "the port after that", from.view(), before)
			is(t, "the port to after that", to.view(), after)
			is(t, "Drop there", to.drop(1), true)
			is(t, "Forward, after it left", from.forward(1, to, 4, "f"), waits)
			is(t, "Forward of another one", from.forward(2, to, 8, "f") == waits, !to.want.meets(2))
		}
	}
}

// Another task at the port to, be it the acceptor in this rendezvous, is in nobody's way.
func TestForwardWhereOthersAre(t *testing.T) {
	from, to := made(t, true, 8), made(t, true, 8)
	to.meets(asker{2, 5, 1, "a"}).calls(asker{acceptor, 5, 1, "b"}, asker{3, 5, 1, "c"}).accepts(asker{4, 5, 2, ""})
	from.meets(asker{1, 5, 1, "m"})
	is(t, "Forward", from.forward(1, to, 2, "n"), met(2, 4, "n"))
	to.holds("15 3", "", "1 2")
}

func TestDropOfACaller(t *testing.T) {
	for _, byPri := range bothOrders {
		for _, gone := range fiveInOrder[byPri] {
			b := made(t, byPri, 8).calls(five...)
			is(t, "Drop of a caller", b.drop(gone), true)
			rest := slices.DeleteFunc(slices.Clone(fiveInOrder[byPri]), func(n int) bool { return n == gone })
			b.holds(told(rest), "", "")
			is(t, "Drop of one who is not here any more", b.drop(gone), false)
			is(t, "Accept of the dropped one's bit", b.accept(9, 5, own(gone)), waits)
			b.drop(9)
			for i, task := range rest {
				is(t, "Accept", b.accept(9, 5, 1), met(i+1, task, whose(task).msg))
			}
			b.drop(rest[0])
			b.calls(asker{gone, 5, 4, "again"})
		}
	}
}

func TestDropOfAnAcceptor(t *testing.T) {
	for _, byPri := range bothOrders {
		for _, gone := range fiveInOrder[false] {
			b := made(t, byPri, 8).accepts(five...)
			is(t, "Drop of an acceptor", b.drop(gone), true)
			rest := slices.DeleteFunc(slices.Clone(fiveInOrder[false]), func(n int) bool { return n == gone })
			b.holds("", told(rest), "")
			is(t, "Drop of one who is not here any more", b.drop(gone), false)
			is(t, "Call with the dropped one's bit", b.call(9, 5, own(gone), "m"), waits)
			b.drop(9)
			for i, task := range rest {
				is(t, "Call", b.call(9+i, 5, 1, "m"), met(i+1, task, "m"))
			}
			b.accepts(asker{gone, 5, 4, ""})
		}
	}
}

// A rendezvous is over when its caller is dropped.
func TestDropOfOneInARendezvous(t *testing.T) {
	for _, byPri := range bothOrders {
		for i, gone := range fiveInOrder[false] {
			b := made(t, byPri, 8).meets(five...)
			is(t, "Drop of a caller in a rendezvous", b.drop(gone), true)
			b.holds("", "", told(slices.Delete([]int{1, 2, 3, 4, 5}, i, i+1)))
			is(t, "Drop of one who is not here any more", b.drop(gone), false)
			is(t, "Reply of one that is over", b.reply(i+1, ""), over{code: api.Obj})
			is(t, "Forward of one that is over", b.forward(i+1, b, 1, ""), refused(api.Obj))
			b.calls(asker{gone, 5, 4, "again"})
			is(t, "Accept", b.accept(9, 5, 4), met(6, gone, "again"))
		}
	}
}

func TestDropOfOneWhoIsNotHere(t *testing.T) {
	for _, byPri := range bothOrders {
		for _, b := range scenes(t, byPri, 8) {
			before := b.view()
			for _, task := range append([]int{9, 10, 12, acceptor}, outside...) {
				is(t, "Drop of one who is not here", b.drop(task), false)
			}
			is(t, "the port after that", b.view(), before)
		}
	}
}

// Whoever is dropped comes as if for the first time: behind its equals, with other bits and another message, as whatever it likes.
func TestComingAgain(t *testing.T) {
	for _, byPri := range bothOrders {
		b := made(t, byPri, 12).calls(asker{1, 5, 1, "long before"}, asker{2, 5, 2, "two"})
		b.drop(1)
		b.calls(asker{1, 5, 4, "new"})
		b.holds("2 1", "", "")
		is(t, "Accept of the bits that it had", b.accept(9, 5, 1), waits)
		is(t, "Accept of the new bits", b.accept(8, 5, 4), met(1, 1, "new"))
		b.drop(1)
		b.accepts(asker{1, 5, 8, ""})
		b.holds("2", "9 1", "")
		b.drop(9)
		b.accepts(asker{9, 5, 8, ""})
		is(t, "Call with the bits that it had", b.call(3, 5, 1, "three"), waits)
		is(t, "Call with the new bits", b.call(4, 5, 8, "four"), met(2, 1, "four"))
		b.drop(9)
		b.calls(asker{9, 5, 2, ""})
		is(t, "Accept of a message of no byte", b.accept(8, 5, 2), met(3, 2, "two"))
		is(t, "Accept of a message of no byte", b.accept(8, 5, 2), met(4, 9, ""))
	}
}

// What may not call, or accept, is refused with Par before it is asked whether the task is here.
func TestCallRefuses(t *testing.T) {
	for _, byPri := range bothOrders {
		for _, most := range []int{2, 8, 1024} {
			for _, b := range scenes(t, byPri, most) {
				before := b.view()
				for _, task := range []int{1, 3, 5, 7, 9, 16} { // here as one thing or another, or not
					is(t, "Call with no bits", b.call(task, 5, 0, "m"), refused(api.Par))
					for _, n := range []int{most + 1, most + 2, most + 256, most + 1024, 65536, 65536 + most} {
						is(t, "Call with too many bytes", answered(b.real.Call(task, 5, 1, []byte(text(1, n)))), refused(api.Par))
						is(t, "Call with too many bytes", answered(b.real.Call(task, 5, all, []byte(text(1, n)))), refused(api.Par))
					}
					for _, bad := range outside {
						is(t, "Call with no priority", answered(b.real.Call(task, bad, 1, nil)), refused(api.Par))
						is(t, "Call of no task", answered(b.real.Call(bad, task, 1, []byte("m"))), refused(api.Par))
						is(t, "Call of no task", answered(b.real.Call(bad, task, all, []byte("m"))), refused(api.Par))
						is(t, "Call with nothing right", answered(b.real.Call(bad, bad, 0, make([]byte, most+1))), refused(api.Par))
					}
				}
				is(t, "the port after that", b.view(), before)
			}
		}
	}
}

func TestAcceptRefuses(t *testing.T) {
	for _, byPri := range bothOrders {
		for _, b := range scenes(t, byPri, 8) {
			before := b.view()
			for _, task := range []int{1, 3, 5, 7, 9, 16} {
				is(t, "Accept with no bits", b.accept(task, 5, 0), refused(api.Par))
				for _, bad := range outside {
					is(t, "Accept with no priority", answered(b.real.Accept(task, bad, 1)), refused(api.Par))
					is(t, "Accept of no task", answered(b.real.Accept(bad, task, 1)), refused(api.Par))
					is(t, "Accept of no task", answered(b.real.Accept(bad, task, all)), refused(api.Par))
					is(t, "Accept with nothing right", answered(b.real.Accept(bad, bad, 0)), refused(api.Par))
				}
			}
			is(t, "the port after that", b.view(), before)
		}
	}
}

// noNumbers are of no rendezvous in a port that has had five.
var noNumbers = append([]int{6, 7, 15, 0x10000001, 0x100000001, 0x100000002}, math.MinInt, math.MinInt+1, -1<<32, -1<<32+1, -256, -5, -2, -1, 0, 17, 257, 1<<16+1, math.MaxInt32, math.MaxInt)

func TestNumbersOfNoRendezvous(t *testing.T) {
	for _, byPri := range bothOrders {
		b, to := made(t, byPri, 8).meets(five...), made(t, byPri, 4).accepts(asker{9, 5, 2, ""})
		is(t, "Reply", b.reply(2, ""), over{task: 1})
		is(t, "Drop", b.drop(16), true)
		is(t, "Forward", b.forward(5, b, 1, "f"), waits)
		b.holds("2", "", "1 3")
		before, there := b.view(), to.view()
		for _, no := range append([]int{2, 4, 5}, noNumbers...) { // over, or never there
			for _, msg := range []string{"", "r", "12345678", "123456789", text(1, 1025)} {
				is(t, "Reply of none", b.reply(no, msg), over{code: api.Obj})
				for _, bits := range []uint32{0, 1, 2, all} {
					is(t, "Forward of none", answered(b.real.Forward(no, to.real, bits, []byte(msg))), refused(api.Obj))
					is(t, "Forward of none to the port itself", answered(b.real.Forward(no, b.real, bits, []byte(msg))), refused(api.Obj))
				}
			}
		}
		is(t, "the port after that", b.view(), before)
		is(t, "the port to after that", to.view(), there)
	}
	for _, b := range scenes(t, true, 8)[:3] { // no rendezvous at all
		for _, no := range append([]int{1, 2, 5}, noNumbers...) {
			is(t, "Reply of none", b.reply(no, ""), over{code: api.Obj})
			is(t, "Forward of none", b.forward(no, b, 1, ""), refused(api.Obj))
		}
	}
}

// A number of another port is not one of this port.
func TestNumbersOfAnotherPort(t *testing.T) {
	a, b := made(t, true, 8).meets(five...), made(t, true, 8).meets(five[:2]...)
	before := a.view()
	is(t, "Reply of another port's", b.reply(3, ""), over{code: api.Obj})
	is(t, "Forward of another port's", b.forward(3, a, 1, ""), refused(api.Obj))
	is(t, "the other port after that", a.view(), before)
}

func TestReplyRefuses(t *testing.T) {
	for _, byPri := range bothOrders {
		for _, most := range []int{0, 1, 8, 1024} {
			b := made(t, byPri, most).meets(asker{1, 5, 1, ""}, asker{2, 5, 1, ""})
			before := b.view()
			for _, n := range []int{most + 1, most + 2, most + 256, most + 1024, 65536 + most} {
				is(t, "Reply with too many bytes", b.reply(1, text(1, n)), over{code: api.Par})
				is(t, "Reply with too many bytes", b.reply(2, text(1, n)), over{code: api.Par})
			}
			is(t, "the port after that", b.view(), before)
			is(t, "Reply with most bytes", b.reply(1, text(1, most)), over{task: 1})
		}
	}
}

func TestForwardWithNoBits(t *testing.T) {
	for _, byPri := range bothOrders {
		from := made(t, byPri, 8).meets(five...)
		from.accepts(asker{9, 5, all, ""})
		to := made(t, byPri, 8).accepts(asker{9, 5, all, ""})
		before, there := from.view(), to.view()
		for no := 1; no <= 5; no++ {
			is(t, "Forward with no bits", from.forward(no, to, 0, "f"), refused(api.Par))
			is(t, "Forward with no bits to the port itself", from.forward(no, from, 0, "f"), refused(api.Par))
		}
		is(t, "the port after that", from.view(), before)
		is(t, "the port to after that", to.view(), there)
	}
}

// Nothing is promised of a Forward to nil, but P1.
func TestForwardToNilDoesNotPanic(t *testing.T) {
	b := made(t, true, 8).meets(asker{1, 5, 1, "m"})
	b.real.Forward(1, nil, 1, []byte("f"))
	b.real.Forward(1, nil, 0, nil)
	b.real.Forward(2, nil, 1, nil)
}

// Rows that are handed out are the caller's own, whatever their length is.
func TestRowsAreTheCallersOwn(t *testing.T) {
	for n := range len(five) + 1 {
		for _, b := range []*both{made(t, true, 8).calls(five[:n]...), made(t, true, 8).accepts(five[:n]...), made(t, true, 8).meets(five[:n]...)} {
			for _, rows := range []func() []int{b.real.Callers, b.real.Acceptors, b.real.Open} {
				spoil(rows())
				b.state()
			}
			r := real{b.real}.rows()
			before := told(r.callers) + "/" + told(r.acceptors) + "/" + told(r.open)
			b.drop(3)
			b.reply(2, "")
			b.accept(9, 1, own(1))
			b.call(10, 1, own(1), "m")
			b.call(11, 1, 4, "m")
			is(t, "rows that were handed out", told(r.callers)+"/"+told(r.acceptors)+"/"+told(r.open), before)
		}
	}
}

// What a caller sends is what it was when it called, and stays that, whoever writes to the slices afterwards.
func TestMessagesAreWhole(t *testing.T) {
	p, _ := New(false, 8)
	q, _ := New(false, 8)
	sent := []byte("first")
	p.Call(1, 5, 1, sent) // waits
	copy(sent, "XXXXX")
	a, _ := p.Accept(9, 5, 1)
	is(t, "the message of one who waited", string(a.Msg), "first")
	spoil(a.Msg)
	p.Accept(9, 5, 2)
	copy(sent, "again")
	b, _ := p.Call(2, 5, 2, sent) // meets at once
	copy(sent, "XXXXX")
	is(t, "the message of one who met at once", string(b.Msg), "again")
	spoil(b.Msg[:0])
	is(t, "what was handed in", string(sent), "XXXXX")
	copy(sent, "third")
	p.Forward(1, q, 1, sent) // waits there
	copy(sent, "XXXXX")
	c, _ := q.Accept(9, 5, 1)
	is(t, "the message of one who was forwarded", string(c.Msg), "third")
	q.Accept(9, 5, 2)
	copy(sent, "final")
	d, _ := q.Forward(1, q, 2, sent) // meets at once
	copy(sent, "XXXXX")
	is(t, "the message of one who was forwarded", string(d.Msg), "final")
	spoil(c.Msg)
	is(t, "the message of one who was forwarded", string(d.Msg), "final")
	spoil(d.Msg)
	is(t, "what was handed in", string(sent), "XXXXX")
}

// The messages of several who wait are their own, also where they were sent with one slice.
func TestMessagesOfOneSlice(t *testing.T) {
	p, _ := New(false, 8)
	slice := make([]byte, 0, 64)
	for task := 1; task <= 9; task++ {
		slice = append(slice[:0], text(task, task-1)...)
		p.Call(task, 5, 1, slice)
	}
	var gots []Met
	for range 9 {
		m, _ := p.Accept(10, 5, 1)
		gots = append(gots, m)
	}
	for i, m := range gots {
		is(t, "a message", string(m.Msg), text(i+1, i))
		spoil(m.Msg)
	}
}

// A zero Port is nobody's answer, but P1 holds of it, too.
func TestAZeroPortDoesNotPanic(t *testing.T) {
	for _, call := range []func(p *Port){
		func(p *Port) { p.Call(1, 1, 1, nil); p.Accept(2, 1, 1); p.Reply(1, nil) },
		func(p *Port) { p.Accept(2, 1, 1); p.Call(1, 1, 1, nil); p.Forward(1, p, 1, nil) },
		func(p *Port) { p.Call(1, 1, 1, []byte("x")) },
		func(p *Port) { p.Forward(0, p, 1, nil) },
		func(p *Port) { p.Reply(0, nil) },
		func(p *Port) { p.Drop(0); p.Drop(1) },
		func(p *Port) { p.Callers(); p.Acceptors(); p.Open() },
	} {
		call(new(Port))
	}
}

// draws are numbers that look drawn by lot, and are the same each time.
type draws uint64

func (d *draws) below(n int) int {
	*d = *d*6364136223846793005 + 1442695040888963407
	return int(uint64(*d>>33) % uint64(n))
}

// bits has one of a few bits, or several, or none.
func (d *draws) bits() uint32 {
	return []uint32{1, 1, 2, 2, 4, high, 3, 5, 1 | high, all &^ 1, all, 0}[d.below(12)]
}

func TestManyCallsAsTheModel(t *testing.T) {
	for seed := range 48 {
		d := draws(seed)
		most := []int{0, 1, 5, 9}[seed/4%4]
		ports := []*both{made(t, seed&1 == 0, most), made(t, seed&2 == 0, 4)}
		favour := 0 // at times more call, at times more accept
		for i := range 250 {
			if i%50 == 0 {
				favour = d.below(5)
			}
			b, other := ports[d.below(2)], ports[d.below(2)]
			task, pri, bits := d.below(18), 1+d.below([]int{2, 5, 17}[seed%3]), d.bits()
			msg := text(i, d.below(most+2))
			no := 1 + b.want.last - d.below(6)
			if len(b.want.open) > 0 && d.below(4) > 0 {
				no = b.want.open[d.below(len(b.want.open))].no
			}
			switch call := d.below(14); {
			case call < 2+favour:
				b.call(task, pri, bits, msg)
			case call < 7:
				b.accept(task, pri, bits)
			case call <= 8:
				b.reply(no, msg)
			case call <= 11:
				b.forward(no, other, bits, msg)
			default:
				b.drop(task)
			}
		}
	}
}

// P3: the same calls in the same order return the same.
func TestTheSameCallsReturnTheSame(t *testing.T) {
	run := func() string {
		p, _ := New(true, 4)
		b := real{p}
		row := ""
		d := draws(5)
		for i := range 400 {
			a := asker{d.below(18), d.below(18), d.bits(), text(i, d.below(6))}
			switch d.below(5) {
			case 0, 1:
				row += b.call(a).told()
			case 2, 3:
				row += b.accept(a).told()
			default:
				row += b.forward(d.below(40), b, a.bits, a.msg).told()
				o := b.reply(d.below(40), a.msg)
				row += told([]int{o.task, int(o.code)})
			}
			r := b.rows()
			row += told(r.callers) + told(r.acceptors) + told(r.open)
		}
		return row
	}
	is(t, "the second run", run(), run())
}
