package mbx

import (
	"cmp"
	"math"
	"slices"
	"testing"

	"detent/api"
	"detent/order"
)

type item = order.Item

var bothOrders = []bool{false, true}

// outside are neither tasks nor priorities of tasks. Many of them differ from one inside by a power of two.
var outside = []int{
	math.MinInt, math.MinInt + 1, -1 << 32, -1<<32 + 1, math.MinInt32, -256, -255, -17, -16, -2, -1, 0,
	17, 18, 32, 33, 256, 257, 1<<16 + 1, math.MaxInt32, 1 << 32, 1<<32 + 1, math.MaxInt - 1, math.MaxInt,
}

// mosts are numbers of message priorities that a box can have.
var mosts = []int{1, 2, 3, 16, 17, 63, 64, 65, 127, 128, 254, 255}

// beyond are not from 1 to most. Many of them differ from one inside by a power of two.
func beyond(most int) []int {
	return []int{
		math.MinInt, math.MinInt + 1, -1 << 32, -1<<32 + 1, math.MinInt32, -256, -255, -most, -1, 0,
		most + 1, most + 2, most + 256, 1 << 8, 1<<8 + 1, 1 << 16, 1<<16 + 1, math.MaxInt32, 1 << 32, 1<<32 + 1, math.MaxInt - 1, math.MaxInt,
	}
}

// kinds are messages of all kinds; some of them could be mistaken for a task, or for one another.
var kinds = []int{
	5, 1, -1, 16, 17, -5, -16, math.MinInt, math.MaxInt, 255, 256, -256, 2, 3,
	math.MinInt32, math.MinInt32 - 1, math.MaxInt32, math.MaxInt32 + 1, 1 << 32, -1 << 32, 1<<32 + 5, math.MinInt + 1, math.MaxInt - 1,
}

// letter is a message with its priority.
type letter struct{ msg, pri int }

// model is the chapter's mailbox in its plainest form: messages and those who wait stand in the order in which they came, and are sorted when they are asked for.
type model struct {
	byPri, msgPri bool
	most          int
	letters       []letter
	came          []item
}

func (m *model) messages() []int {
	row := slices.Clone(m.letters)
	if m.msgPri {
		slices.SortStableFunc(row, func(a, b letter) int { return cmp.Compare(a.pri, b.pri) })
	}
	var all []int
	for _, l := range row {
		all = append(all, l.msg)
	}
	return all
}

func (m *model) row() []item {
	row := slices.Clone(m.came)
	if m.byPri {
		slices.SortStableFunc(row, func(a, b item) int { return cmp.Compare(a.Pri, b.Pri) })
	}
	return row
}

func (m *model) at(task int) int {
	return slices.IndexFunc(m.came, func(x item) bool { return x.ID == task })
}

func (m *model) send(msg, pri int) sent {
	row := m.row()
	switch {
	case msg == 0, m.msgPri && (pri < 1 || pri > m.most):
		return sent{code: api.Par}
	case slices.Contains(m.messages(), msg):
		return sent{code: api.Obj}
	case len(row) > 0:
		m.remove(row[0].ID)
		return to(row[0].ID)
	}
	m.letters = append(m.letters, letter{msg, pri})
	return added
}

func (m *model) poll() received {
	all := m.messages()
	if len(all) == 0 {
		return nothing
	}
	m.letters = slices.DeleteFunc(m.letters, func(l letter) bool { return l.msg == all[0] })
	return got(all[0])
}

func (m *model) recv(task, pri int) received {
	if got := m.poll(); got.ok {
		return got
	}
	return received{code: m.add(task, pri)}
}

func inside(n int) bool { return n >= 1 && n <= 16 }

func (m *model) add(task, pri int) api.Code {
	switch {
	case !inside(task) || !inside(pri):
		return api.Par
	case m.at(task) >= 0:
		return api.Obj
	}
	m.came = append(m.came, item{ID: task, Pri: pri})
	return api.OK
}

func (m *model) remove(task int) bool {
	at := m.at(task)
	if at >= 0 {
		m.came = slices.Delete(m.came, at, at+1)
	}
	return at >= 0
}

func (m *model) change(task, pri int) bool {
	at := m.at(task)
	if at < 0 || !inside(pri) {
		return false
	}
	if !m.byPri {
		m.came[at].Pri = pri
		return true
	}
	m.remove(task) // behind its new equals
	m.came = append(m.came, item{ID: task, Pri: pri})
	return true
}

func (m *model) apart() *model {
	c := *m
	c.letters, c.came = slices.Clone(m.letters), slices.Clone(m.came)
	return &c
}

// sent is what Send returns, received what Recv and Poll do; where a call returns no code, it is OK.
type sent struct {
	task int
	code api.Code
}

type received struct {
	msg  int
	ok   bool
	code api.Code
}

var (
	added   = sent{}
	nothing = received{}
)

func to(task int) sent { return sent{task: task} }

func got(msg int) received { return received{msg: msg, ok: true} }

// both is a mailbox beside its model: each call is made on the two, the answers are held against each other, and then all that can be observed.
type both struct {
	t    *testing.T
	real *Box
	want *model
}

func made(t *testing.T, byPri, msgPri bool, most int) *both {
	t.Helper()
	x, code := NewBox(byPri, msgPri, most)
	if x == nil || code != api.OK {
		t.Fatalf("P1401: NewBox(%v, %v, %d) is %v, %v", byPri, msgPri, most, x, code)
	}
	b := &both{t, x, &model{byPri: byPri, msgPri: msgPri, most: most}}
	b.state()
	return b
}

// filled is a mailbox to which these were sent while nobody waited.
func filled(t *testing.T, msgPri bool, most int, letters ...letter) *both {
	t.Helper()
	b := made(t, true, msgPri, most)
	for _, l := range letters {
		is(t, "Send while nobody waits", b.send(l.msg, l.pri), added)
	}
	return b
}

// waited is an empty mailbox from which these wait to receive.
func waited(t *testing.T, byPri, msgPri bool, items ...item) *both {
	t.Helper()
	b := made(t, byPri, msgPri, 9)
	for _, x := range items {
		is(t, "Recv of nothing", b.recv(x.ID, x.Pri), nothing)
	}
	b.wait(len(items))
	return b
}

// is holds an answer against one that the test itself writes.
func is[T comparable](t *testing.T, what string, got, want T) {
	t.Helper()
	if got != want {
		t.Errorf("P1401: %s is %v, not %v", what, got, want)
	}
}

func (b *both) send(msg, pri int) sent {
	b.t.Helper()
	task, code := b.real.Send(msg, pri)
	got := sent{task, code}
	is(b.t, "Send", got, b.want.send(msg, pri))
	b.state()
	return got
}

func (b *both) recv(task, pri int) received {
	b.t.Helper()
	msg, ok, code := b.real.Recv(task, pri)
	got := received{msg, ok, code}
	is(b.t, "Recv", got, b.want.recv(task, pri))
	b.state()
	return got
}

func (b *both) poll() received {
	b.t.Helper()
	msg, ok := b.real.Poll()
	got := received{msg: msg, ok: ok}
	is(b.t, "Poll", got, b.want.poll())
	b.state()
	return got
}

func (b *both) add(task, pri int) api.Code {
	b.t.Helper()
	got := b.real.Add(task, pri)
	is(b.t, "Add", got, b.want.add(task, pri))
	b.state()
	return got
}

func (b *both) remove(task int) bool {
	b.t.Helper()
	got := b.real.Remove(task)
	is(b.t, "Remove", got, b.want.remove(task))
	b.state()
	return got
}

func (b *both) change(task, pri int) bool {
	b.t.Helper()
	got := b.real.Change(task, pri)
	is(b.t, "Change", got, b.want.change(task, pri))
	b.state()
	return got
}

func (b *both) apart() *both {
	b.t.Helper()
	x := b.real.Apart()
	if x == nil || x == b.real || x.Queue == b.real.Queue {
		b.t.Fatal("P1401: the copy is nil, or it is the mailbox itself or has its Queue")
	}
	copied := &both{b.t, x, b.want.apart()}
	copied.state()
	b.state()
	return copied
}

// state asks for all that can be observed; what comes out later, and where one more message would stand, is asked of copies.
func (b *both) state() {
	b.t.Helper()
	b.holds(b.want.messages()...)
	b.queue()
	x, m := b.real.Apart(), b.want.apart()
	for left := true; left; {
		msg, ok := x.Poll()
		if want := m.poll(); msg != want.msg || ok != want.ok {
			b.t.Fatalf("P1401: a Poll later would be %d, %v, not %v", msg, ok, want)
		}
		left = ok
	}
	const more = 987654321
	for _, pri := range []int{1, 2, 3, 5, b.want.most - 1, b.want.most, b.want.most + 1} {
		x, m := b.real.Apart(), b.want.apart()
		x.Send(more, pri)
		m.send(more, pri)
		if got, want := x.Messages(), m.messages(); !slices.Equal(got, want) {
			b.t.Fatalf("P1401: with one more of priority %d, Messages would be %v, not %v", pri, got, want)
		}
	}
}

// queue asks for all that the methods of Queue tell of those who wait.
func (b *both) queue() {
	b.t.Helper()
	row := b.want.row()
	b.wait(len(row))
	if got := b.real.Row(); !slices.Equal(got, row) {
		b.t.Errorf("P1401: %v wait, not %v", got, row)
	}
	first, there := b.real.First()
	if there != (len(row) > 0) || there && first != row[0] {
		b.t.Errorf("P1401: First is %v, %v, of %v", first, there, row)
	}
	for task := 0; task <= 17; task++ {
		at := slices.IndexFunc(row, func(x item) bool { return x.ID == task })
		pri := 0
		if at >= 0 {
			pri = row[at].Pri
		}
		if got, ok := b.real.Pri(task); got != pri || ok != (at >= 0) || b.real.Has(task) != ok {
			b.t.Errorf("P1401: Pri(%d) is %d, %v, of %v", task, got, ok, row)
		}
	}
}

// holds is of the messages, as the test itself writes them.
func (b *both) holds(messages ...int) {
	b.t.Helper()
	if got := b.real.Messages(); !slices.Equal(got, messages) {
		b.t.Errorf("P1401: Messages is %v, not %v", got, messages)
	}
}

// wait is of the number of those who wait.
func (b *both) wait(n int) {
	b.t.Helper()
	if got := b.real.Len(); got != n {
		b.t.Errorf("P1401: %d wait, not %d", got, n)
	}
}

// empties polls all messages, which are these.
func (b *both) empties(messages ...int) {
	b.t.Helper()
	for _, msg := range messages {
		is(b.t, "Poll", b.poll(), got(msg))
	}
	is(b.t, "Poll of nothing", b.poll(), nothing)
	b.holds()
}

// releases sends as many messages as tasks wait, who are released in this order.
func (b *both) releases(tasks ...int) {
	b.t.Helper()
	for i, task := range tasks {
		is(b.t, "Send while tasks wait", b.send(-100-i, 1), to(task))
		b.holds()
	}
	b.wait(0)
}

// five are tasks in the order in which they come, fiveInOrder their order, by byPri.
var five = []item{{ID: 3, Pri: 5}, {ID: 1, Pri: 2}, {ID: 4, Pri: 5}, {ID: 16, Pri: 1}, {ID: 2, Pri: 2}}

var fiveInOrder = map[bool][]int{false: {3, 1, 4, 16, 2}, true: {16, 1, 2, 3, 4}}

// four are the letters of the chapter's example, of which fourInOrder is the order, by msgPri.
var four = []letter{{5, 3}, {-7, 1}, {6, 3}, {9, 2}}

var fourInOrder = map[bool][]int{false: {5, -7, 6, 9}, true: {-7, 9, 5, 6}}

func without(row []int, n int) []int {
	return slices.DeleteFunc(slices.Clone(row), func(x int) bool { return x == n })
}

// upTo are the numbers from first on, one less than end the last.
func upTo(first, end int) []int {
	var row []int
	for n := first; n < end; n++ {
		row = append(row, n)
	}
	return row
}

func TestTheLimits(t *testing.T) {
	if api.MaxTasks != 16 || api.MaxPri != 16 {
		t.Fatal("the tests speak of 16 tasks and 16 priorities")
	}
}

func TestTheChaptersExample(t *testing.T) {
	for _, byPri := range bothOrders {
		x, code := NewBox(byPri, true, 9)
		if x == nil || code != api.OK {
			t.Fatalf("P1401: NewBox is %v", code)
		}
		for _, l := range []letter{{5, 3}, {-7, 1}, {6, 3}, {9, 2}} {
			if task, code := x.Send(l.msg, l.pri); task != 0 || code != api.OK {
				t.Errorf("P1401: Send of %v is %d, %v", l, task, code)
			}
		}
		if all := x.Messages(); !slices.Equal(all, []int{-7, 9, 5, 6}) {
			t.Errorf("P1401: Messages is %v", all)
		}
	}
}

func TestNewBox(t *testing.T) {
	for _, byPri := range bothOrders {
		for most := 1; most <= 255; most++ {
			b := made(t, byPri, true, most)
			is(t, "Poll of a new box", b.poll(), nothing)
			is(t, "Send with the lowest priority", b.send(7, most), added)
			is(t, "Send with one above", b.send(8, most+1), sent{code: api.Par})
			b.holds(7)
			plain := made(t, byPri, false, most)
			is(t, "Poll of a new box", plain.poll(), nothing)
			is(t, "Send with any priority", plain.send(7, most+1), added)
			plain.holds(7)
		}
	}
}

func TestNewBoxRefuses(t *testing.T) {
	for _, byPri := range bothOrders {
		for _, msgPri := range bothOrders {
			for _, most := range beyond(255) {
				if x, code := NewBox(byPri, msgPri, most); x != nil || code != api.Par {
					t.Errorf("P1401, P4: NewBox(%v, %v, %d) is %v, %v", byPri, msgPri, most, x, code)
				}
			}
		}
	}
}

func TestNewBoxesShareNothing(t *testing.T) {
	for _, msgPri := range bothOrders {
		a, b := made(t, true, msgPri, 9), made(t, true, msgPri, 9)
		a.recv(1, 1)
		b.state()
		is(t, "Send while nobody waits", b.send(7, 1), added)
		is(t, "Send while a task waits", a.send(7, 1), to(1))
		is(t, "Send while nobody waits", a.send(7, 1), added)
		b.poll()
		a.holds(7)
		made(t, true, msgPri, 9).holds()
	}
}

func TestSendReleasesTheFirstTask(t *testing.T) {
	for byPri, tasks := range fiveInOrder {
		for _, msgPri := range bothOrders {
			b := waited(t, byPri, msgPri, five...)
			for i, task := range tasks {
				is(t, "Send while tasks wait", b.send(kinds[i], 9-i), to(task))
				b.holds() // the task has the message: it is not added as well
				b.wait(4 - i)
			}
			is(t, "Poll of nothing", b.poll(), nothing)
			is(t, "Send while nobody waits any more", b.send(kinds[5], 1), added)
			b.holds(kinds[5])
		}
	}
}

// A message that a task got is in no box, so it may be sent again at once.
func TestSendOfOneMessageToAllThatWait(t *testing.T) {
	for byPri, tasks := range fiveInOrder {
		for _, msgPri := range bothOrders {
			b := waited(t, byPri, msgPri, five...)
			for _, task := range tasks {
				is(t, "Send while tasks wait", b.send(-3, 2), to(task))
			}
			is(t, "Send while nobody waits", b.send(-3, 2), added)
			is(t, "Send of a message in the box", b.send(-3, 2), sent{code: api.Obj})
			b.holds(-3)
		}
	}
}

// Without msgPri, pri is ignored, also by whoever releases a task.
func TestSendToATaskWithAnyPriority(t *testing.T) {
	for _, pri := range beyond(9) {
		b := waited(t, true, false, item{ID: 6, Pri: 6})
		is(t, "Send while a task waits", b.send(7, pri), to(6))
		b.holds()
	}
	for pri := 1; pri <= 9; pri++ {
		b := waited(t, true, true, item{ID: 6, Pri: 6})
		is(t, "Send while a task waits", b.send(7, pri), to(6))
		b.holds()
	}
}

func TestSendReleasesEachTask(t *testing.T) {
	for _, byPri := range bothOrders {
		for task := 1; task <= 16; task++ {
			b := waited(t, byPri, false, item{ID: task, Pri: 17 - task})
			is(t, "Send while one waits", b.send(99, 1), to(task))
			is(t, "Send while nobody waits", b.send(99, 1), added)
			b.holds(99)
		}
	}
}

func TestTasksOfEqualPriorityInTheOrderInWhichTheyCame(t *testing.T) {
	came := []int{16, 1, 15, 2, 14, 3, 13, 4, 12, 5, 11, 6, 10, 7, 9, 8}
	for _, byPri := range bothOrders {
		for _, pri := range []int{1, 8, 16} {
			b := made(t, byPri, true, 1)
			for _, task := range came {
				is(t, "Recv of nothing", b.recv(task, pri), nothing)
			}
			b.releases(came...)
		}
	}
}

func TestAllTasksWaitEachWithItsOwnPriority(t *testing.T) {
	for _, byPri := range bothOrders {
		b := made(t, byPri, true, 1)
		for task := 1; task <= 16; task++ {
			is(t, "Recv of nothing", b.recv(task, 17-task), nothing)
		}
		tasks := upTo(1, 17)
		if byPri {
			slices.Reverse(tasks)
		}
		b.releases(tasks...)
	}
}

func TestSendByPriority(t *testing.T) {
	for _, c := range []struct {
		pri      int
		messages []int // before it they are -7, 9, 5, 6, of the priorities 2, 4, 6, 6
	}{
		{1, []int{8, -7, 9, 5, 6}},
		{2, []int{-7, 8, 9, 5, 6}},
		{3, []int{-7, 8, 9, 5, 6}},
		{4, []int{-7, 9, 8, 5, 6}},
		{5, []int{-7, 9, 8, 5, 6}},
		{6, []int{-7, 9, 5, 6, 8}},
		{7, []int{-7, 9, 5, 6, 8}},
		{255, []int{-7, 9, 5, 6, 8}},
	} {
		b := filled(t, true, 255, letter{5, 6}, letter{-7, 2}, letter{6, 6}, letter{9, 4})
		b.holds(-7, 9, 5, 6)
		is(t, "Send while nobody waits", b.send(8, c.pri), added)
		b.holds(c.messages...)
		b.empties(c.messages...)
	}
}

func TestSendWithTheHighestAndTheLowestPriority(t *testing.T) {
	for _, most := range mosts {
		b := filled(t, true, most, letter{1, most}, letter{2, 1}, letter{3, most}, letter{4, 1}, letter{5, (most + 1) / 2})
		row := []int{2, 4, 5, 1, 3}
		if most == 1 {
			row = []int{1, 2, 3, 4, 5}
		}
		b.holds(row...)
		b.empties(row...)
	}
}

func TestMessagesOfEqualPriorityInTheOrderInWhichTheyCame(t *testing.T) {
	for _, msgPri := range bothOrders {
		for _, most := range mosts {
			for _, pri := range []int{1, (most + 1) / 2, most} {
				b := made(t, false, msgPri, most)
				for _, msg := range kinds {
					is(t, "Send while nobody waits", b.send(msg, pri), added)
				}
				b.empties(kinds...)
			}
		}
	}
}

func TestMessagesOfEveryPriority(t *testing.T) {
	up, down, plain := made(t, true, true, 255), made(t, true, true, 255), made(t, true, false, 255)
	for pri := 1; pri <= 255; pri++ {
		for _, x := range []*Box{up.real, plain.real} {
			x.Send(pri, pri)
		}
		down.real.Send(256-pri, 256-pri)
	}
	for _, b := range []*both{up, down, plain} {
		b.holds(upTo(1, 256)...)
	}
	for pri := 1; pri <= 255; pri++ { // one more behind each
		up.real.Send(-pri, pri)
	}
	for pri := 1; pri <= 255; pri++ {
		for _, msg := range []int{pri, -pri} {
			if got, ok := up.real.Poll(); got != msg || !ok {
				t.Fatalf("P1401: Poll is %d, %v, not %d", got, ok, msg)
			}
		}
	}
	up.holds()
}

func TestSendWithoutMessagePriorities(t *testing.T) {
	for _, most := range mosts {
		b := made(t, true, false, most)
		pris := slices.Concat([]int{most, 1, 2, 1}, beyond(most))
		for i, pri := range pris {
			is(t, "Send while nobody waits", b.send(i+1, pri), added)
			b.holds(upTo(1, i+2)...)
		}
		b.empties(upTo(1, len(pris)+1)...)
	}
}

func TestSendAgain(t *testing.T) {
	for _, msgPri := range bothOrders {
		b := filled(t, msgPri, 9, letter{5, 3}, letter{6, 3})
		is(t, "Recv", b.recv(1, 1), got(5))
		is(t, "Send of what was received", b.send(5, 3), added)
		b.holds(6, 5)
		is(t, "Poll", b.poll(), got(6))
		is(t, "Send of what was polled", b.send(6, 2), added)
		b.holds(map[bool][]int{false: {5, 6}, true: {6, 5}}[msgPri]...) // with its new priority
		b.empties(b.real.Messages()...)
		for range 3 { // the only one, again and again
			is(t, "Send of what was polled", b.send(5, 9), added)
			is(t, "Send of a message in the box", b.send(5, 9), sent{code: api.Obj})
			is(t, "Poll", b.poll(), got(5))
			is(t, "Send of what was polled", b.send(5, 1), added)
			is(t, "Recv", b.recv(1, 1), got(5))
		}
	}
}

// The first, the last and the only one of a priority leave; what comes then stands behind the priorities that are left.
func TestSendAfterAPriorityRanOut(t *testing.T) {
	b := filled(t, true, 9, letter{1, 2}, letter{2, 4}, letter{3, 4}, letter{4, 6})
	is(t, "Poll", b.poll(), got(1))
	is(t, "Send", b.send(5, 3), added)
	b.holds(5, 2, 3, 4)
	is(t, "Poll", b.poll(), got(5))
	is(t, "Poll", b.poll(), got(2))
	is(t, "Send", b.send(6, 4), added) // behind 3, which is the last of its priority still
	b.holds(3, 6, 4)
	is(t, "Poll", b.poll(), got(3))
	is(t, "Poll", b.poll(), got(6))
	is(t, "Send", b.send(7, 5), added)
	is(t, "Send", b.send(8, 9), added)
	is(t, "Send", b.send(9, 1), added)
	b.empties(9, 7, 4, 8)
	is(t, "Send", b.send(1, 9), added)
	is(t, "Send", b.send(2, 8), added)
	b.empties(2, 1)
}

func TestMessagesOfAllKinds(t *testing.T) {
	for _, msgPri := range bothOrders {
		for _, msg := range kinds {
			b := filled(t, msgPri, 9, letter{msg, 4})
			is(t, "Send of a message in the box", b.send(msg, 4), sent{code: api.Obj})
			other := msg ^ 1<<40 // it differs in one bit only
			is(t, "Send of another message", b.send(other, 4), added)
			b.holds(msg, other)
			is(t, "Recv", b.recv(1, 1), got(msg))
			is(t, "Poll", b.poll(), got(other))
			is(t, "Recv of nothing", b.recv(1, 1), nothing)
			is(t, "Send while a task waits", b.send(msg, 4), to(1))
		}
	}
}

func TestManyMessages(t *testing.T) {
	const many = 200000
	for _, msgPri := range bothOrders {
		x, _ := NewBox(true, msgPri, 255)
		want := make([]int, 0, many)
		rows := [256][]int{}
		for i := range many {
			msg, pri := (many/2-i)*7919, 1+i*31%255
			if msg == 0 {
				continue
			}
			if task, code := x.Send(msg, pri); task != 0 || code != api.OK {
				t.Fatalf("P1401: Send(%d, %d) is %d, %v", msg, pri, task, code)
			}
			if msgPri {
				rows[pri] = append(rows[pri], msg)
			} else {
				rows[1] = append(rows[1], msg)
			}
		}
		for _, row := range rows {
			want = append(want, row...)
		}
		if !slices.Equal(x.Messages(), want) || !slices.Equal(x.Apart().Messages(), want) {
			t.Fatalf("P1401: of many messages Messages are not the same, with msgPri %v", msgPri)
		}
		for _, msg := range want {
			if _, code := x.Send(msg, 255); code != api.Obj {
				t.Fatalf("P1401: Send(%d) of a message in the box is %v", msg, code)
			}
			if got, ok := x.Poll(); got != msg || !ok {
				t.Fatalf("P1401: Poll is %d, %v, not %d", got, ok, msg)
			}
		}
		if msg, ok := x.Poll(); msg != 0 || ok || len(x.Messages()) != 0 {
			t.Errorf("P1401: behind the last message, Poll is %d, %v", msg, ok)
		}
	}
}

func TestSendRefusesNoMessage(t *testing.T) {
	par := sent{code: api.Par}
	for _, msgPri := range bothOrders {
		empty, full, waiting := made(t, true, msgPri, 9), filled(t, msgPri, 9, four...), waited(t, true, msgPri, five...)
		for pri := -1; pri <= 11; pri++ {
			for _, b := range []*both{empty, full, waiting} {
				is(t, "Send of 0", b.send(0, pri), par)
			}
		}
		empty.holds()
		full.holds(fourInOrder[msgPri]...)
		waiting.wait(5)
		waiting.releases(fiveInOrder[true]...)
	}
}

func TestSendRefusesNoPriority(t *testing.T) {
	par := sent{code: api.Par}
	for _, most := range mosts {
		b, waiting := made(t, true, true, most), made(t, true, true, most)
		b.send(5, 1)
		b.send(6, most)
		waiting.recv(3, 3)
		for _, pri := range beyond(most) {
			is(t, "Send with no priority", b.send(7, pri), par)
			is(t, "Send with no priority", b.send(5, pri), par) // also of a message in the box: Par comes before Obj
			is(t, "Send with no priority", b.send(0, pri), par)
			is(t, "Send with no priority", waiting.send(7, pri), par)
		}
		b.holds(5, 6)
		waiting.holds()
		waiting.releases(3)
	}
}

func TestSendRefusesAMessageInTheBox(t *testing.T) {
	for _, msgPri := range bothOrders {
		b := filled(t, msgPri, 9, four...)
		for _, l := range four {
			for pri := 1; pri <= 9; pri++ {
				is(t, "Send of a message in the box", b.send(l.msg, pri), sent{code: api.Obj})
			}
		}
		b.holds(fourInOrder[msgPri]...)
		b.empties(fourInOrder[msgPri]...) // each only once
	}
	plain := filled(t, false, 9, four...)
	for _, pri := range beyond(9) {
		is(t, "Send of a message in the box", plain.send(5, pri), sent{code: api.Obj})
	}
	plain.holds(fourInOrder[false]...)
}

// Equal messages may be in different boxes.
func TestSendOfAMessageInAnotherBox(t *testing.T) {
	a, b := filled(t, true, 9, four...), filled(t, false, 9, four...)
	is(t, "Poll", a.poll(), got(-7))
	is(t, "Send of a message in the box", b.send(-7, 1), sent{code: api.Obj})
	is(t, "Send of a message in another box", a.send(-7, 1), added)
}

// As long as there is a message, the chapter asks nothing of task and pri.
func TestRecvWithMessages(t *testing.T) {
	for _, msgPri := range bothOrders {
		one := filled(t, msgPri, 9, letter{-4, 2})
		is(t, "Recv of the only message", one.recv(3, 3), got(-4))
		one.holds()
		b := filled(t, msgPri, 9, four...)
		all := fourInOrder[msgPri]
		for i, msg := range all {
			is(t, "Recv of several", b.recv(3, 3), got(msg)) // the same task: it does not wait
			b.holds(all[i+1:]...)
			b.wait(0)
		}
		is(t, "Recv of nothing", b.recv(3, 3), nothing)
		b.wait(1)
		for _, n := range outside {
			b := filled(t, msgPri, 9, four...)
			is(t, "Recv of no task", b.recv(n, 1), got(all[0]))
			is(t, "Recv with no priority", b.recv(1, n), got(all[1]))
			is(t, "Recv of neither", b.recv(n, n), got(all[2]))
			b.holds(all[3])
		}
	}
}

func TestRecvOfNothingByEveryTaskWithEveryPriority(t *testing.T) {
	for _, byPri := range bothOrders {
		for task := 1; task <= 16; task++ {
			for pri := 1; pri <= 16; pri++ {
				b := waited(t, byPri, true, item{ID: task, Pri: pri})
				if row := b.real.Row(); !slices.Equal(row, []item{{ID: task, Pri: pri}}) {
					t.Errorf("P1401: after Recv(%d, %d), %v wait", task, pri, row)
				}
			}
		}
	}
}

func TestRecvOfNothingByNoTask(t *testing.T) {
	par := received{code: api.Par}
	for byPri, tasks := range fiveInOrder {
		empty, waiting := made(t, byPri, true, 9), waited(t, byPri, true, five...)
		for _, bad := range outside {
			for _, other := range append([]int{1, 3, 9, 16}, outside...) { // also of a task that waits: Par comes before Obj
				for _, b := range []*both{empty, waiting} {
					is(t, "Recv of no task", b.recv(bad, other), par)
					is(t, "Recv with no priority", b.recv(other, bad), par)
				}
			}
		}
		empty.wait(0)
		waiting.releases(tasks...)
	}
}

func TestRecvOfNothingByOneWhoWaits(t *testing.T) {
	for byPri, tasks := range fiveInOrder {
		b := waited(t, byPri, true, five...)
		for _, x := range five {
			for pri := 1; pri <= 16; pri++ {
				is(t, "Recv of one who waits", b.recv(x.ID, pri), received{code: api.Obj})
			}
		}
		is(t, "Send while tasks wait", b.send(7, 1), to(tasks[0]))
		is(t, "Recv of one who was released", b.recv(tasks[0], 16), nothing)
		is(t, "Recv of one who waits", b.recv(tasks[0], 16), received{code: api.Obj})
		b.releases(append(slices.Clone(tasks[1:]), tasks[0])...)
	}
}

func TestPoll(t *testing.T) {
	for _, msgPri := range bothOrders {
		b := made(t, true, msgPri, 9)
		is(t, "Poll of a new box", b.poll(), nothing)
		is(t, "Send", b.send(-4, 2), added)
		is(t, "Poll of the only message", b.poll(), got(-4))
		is(t, "Poll of nothing", b.poll(), nothing)
		b.wait(0)
		filled(t, msgPri, 9, four...).empties(fourInOrder[msgPri]...)
	}
}

func TestPollWhileTasksWait(t *testing.T) {
	for byPri, tasks := range fiveInOrder {
		b := waited(t, byPri, true, five...)
		for range 3 {
			is(t, "Poll of nothing", b.poll(), nothing)
		}
		b.releases(tasks...)
	}
}

func TestMessagesAreTheCallersOwn(t *testing.T) {
	for _, msgPri := range bothOrders {
		for n := range 6 {
			b := made(t, true, msgPri, 9)
			for i := range n {
				is(t, "Send", b.send(10*i-20-i/2, 1+i%9), added) // -20, -10, -1, 9, 18
			}
			kept := b.real.Messages()
			if len(kept) != n {
				t.Errorf("P1401: Messages is %v, of %d", kept, n)
			}
			row := b.real.Messages()
			row = row[:cap(row)]
			for i := range row {
				row[i] = 77
			}
			b.state()
			before := slices.Clone(kept)
			b.send(55, 1)
			b.poll()
			b.send(66, 9)
			b.recv(1, 1)
			if !slices.Equal(kept, before) {
				t.Errorf("P2: Messages that were handed out are %v now, not %v", kept, before)
			}
		}
	}
}

func TestRowsAreTheCallersOwn(t *testing.T) {
	b := waited(t, true, true, five...)
	row := b.real.Row()
	row = row[:cap(row)]
	for i := range row {
		row[i] = item{ID: 7, Pri: 7}
	}
	b.state()
}

func TestApartWithMessages(t *testing.T) {
	for _, msgPri := range bothOrders {
		all := fourInOrder[msgPri]
		b := filled(t, msgPri, 9, four...)
		c := b.apart()
		is(t, "Poll", b.poll(), got(all[0]))
		is(t, "Send", b.send(3, 9), added)
		is(t, "Send", b.send(all[0], 9), added) // the same message, elsewhere
		c.holds(all...)
		c.state()
		is(t, "Send of a message in the copy", c.send(all[0], 1), sent{code: api.Obj})
		is(t, "Send of a message that is not in the copy", c.send(3, 9), added)
		is(t, "Recv", c.recv(1, 1), got(all[0]))
		is(t, "Recv", c.recv(1, 1), got(all[1]))
		b.holds(all[1], all[2], all[3], 3, all[0])
		b.state()
		c.empties(all[2], all[3], 3)
		b.empties(all[1], all[2], all[3], 3, all[0])
	}
}

// The copy keeps the priorities of the messages: those that come later stand behind their equals in it.
func TestApartWithPrioritiesOfMessages(t *testing.T) {
	b := filled(t, true, 9, four...) // -7, 9, 5, 6, of the priorities 1, 2, 3, 3
	c := b.apart().apart()
	is(t, "Send", c.send(1, 2), added)
	is(t, "Send", b.send(1, 3), added)
	is(t, "Send", c.send(2, 1), added)
	is(t, "Send", b.send(2, 9), added)
	c.holds(-7, 2, 9, 1, 5, 6)
	b.holds(-7, 9, 5, 6, 1, 2)
}

func TestApartWithTasksThatWait(t *testing.T) {
	for byPri, tasks := range fiveInOrder {
		b := waited(t, byPri, true, five...)
		c := b.apart()
		is(t, "Send while tasks wait", b.send(7, 1), to(tasks[0]))
		b.recv(9, 16)
		c.wait(5)
		c.state()
		c.remove(tasks[1])
		c.recv(10, 16)
		b.state()
		b.releases(append(slices.Clone(tasks[1:]), 9)...)
		is(t, "Send", b.send(8, 1), added)
		c.holds()
		is(t, "Send while tasks wait in the copy", c.send(8, 1), to(tasks[0]))
		c.releases(append(slices.Clone(tasks[2:]), 10)...)
		b.holds(8)
	}
}

// The copy keeps byPri, msgPri and most, also if it is made of an empty box, and if it is the copy of a copy.
func TestApartKeepsTheBoxesWays(t *testing.T) {
	for byPri, tasks := range fiveInOrder {
		for _, msgPri := range bothOrders {
			for _, most := range []int{3, 4, 254, 255} {
				b := made(t, byPri, msgPri, most).apart().apart()
				over := added
				if msgPri {
					over = sent{code: api.Par}
				}
				for _, l := range four {
					is(t, "Send", b.send(l.msg, l.pri), added)
				}
				b.holds(fourInOrder[msgPri]...)
				is(t, "Send with the lowest priority", b.send(1, most), added)
				is(t, "Send with one above", b.send(2, most+1), over)
				is(t, "Send with 0", b.send(3, 0), over)
				b.empties(b.real.Messages()...)
				for _, x := range five {
					is(t, "Recv of nothing", b.recv(x.ID, x.Pri), nothing)
				}
				b.releases(tasks...)
			}
		}
	}
}

func TestRemoveIsPromoted(t *testing.T) {
	for byPri, tasks := range fiveInOrder {
		for _, gone := range tasks {
			b := waited(t, byPri, true, five...)
			is(t, "Remove of one who waits", b.remove(gone), true)
			is(t, "Remove of one who does not wait any more", b.remove(gone), false)
			b.releases(without(tasks, gone)...) // who is removed gets nothing
			is(t, "Send while nobody waits", b.send(7, 1), added)
			is(t, "Recv of one who was removed", b.recv(gone, 1), got(7))
		}
		b := waited(t, byPri, true, item{ID: 9, Pri: 9})
		b.remove(9)
		is(t, "Send while nobody waits", b.send(7, 1), added)
		b.holds(7)
		full := filled(t, true, 9, four...)
		for _, task := range append([]int{5, -7, 6, 9}, outside...) { // some of them are messages
			is(t, "Remove of one who does not wait", full.remove(task), false)
		}
	}
}

func TestWaitingAgain(t *testing.T) {
	for byPri, tasks := range map[bool][]int{false: {1, 4, 16, 2, 3}, true: {16, 1, 2, 4, 3}} {
		b := waited(t, byPri, true, five...)
		b.remove(3)
		is(t, "Recv of one who was removed", b.recv(3, 5), nothing) // as if for the first time
		b.releases(tasks...)
	}
}

func TestChangeIsPromoted(t *testing.T) {
	for _, c := range []struct {
		task, pri int
		row       []int // with byPri, where the five are 16, 1, 2, 3, 4
	}{
		{4, 1, []int{16, 4, 1, 2, 3}},
		{16, 16, []int{1, 2, 3, 4, 16}},
		{16, 2, []int{1, 2, 16, 3, 4}},
		{1, 2, []int{16, 2, 1, 3, 4}}, // the same: behind its equals
		{2, 2, []int{16, 1, 2, 3, 4}},
		{3, 3, []int{16, 1, 2, 3, 4}},
		{1, 5, []int{16, 2, 3, 4, 1}},
	} {
		b := waited(t, true, true, five...)
		is(t, "Change of one who waits", b.change(c.task, c.pri), true)
		b.releases(c.row...)
		plain := waited(t, false, true, five...)
		is(t, "Change of one who waits", plain.change(c.task, c.pri), true)
		plain.releases(fiveInOrder[false]...)
	}
}

func TestChangeRefuses(t *testing.T) {
	for byPri, tasks := range fiveInOrder {
		b := waited(t, byPri, true, five...)
		for _, n := range outside {
			is(t, "Change to no priority", b.change(3, n), false)
			is(t, "Change of no task", b.change(n, 3), false)
		}
		is(t, "Change of one who does not wait", b.change(9, 1), false)
		b.releases(tasks...)
		is(t, "Change of one who was released", b.change(3, 1), false)
	}
}

func TestTakeIsPromoted(t *testing.T) {
	for byPri := range fiveInOrder {
		b := waited(t, byPri, true, five...)
		for _, x := range b.want.row() {
			if got, ok := b.real.Take(); got != x || !ok {
				t.Errorf("P1401: Take is %v, %v, not %v", got, ok, x)
			}
			b.want.remove(x.ID)
			b.state()
		}
		if got, ok := b.real.Take(); ok || got != (item{}) {
			t.Errorf("P1401: Take of none is %v, %v", got, ok)
		}
		is(t, "Send while nobody waits", b.send(7, 1), added)
	}
}

func TestTwinIsOfTheQueueAlone(t *testing.T) {
	b := waited(t, true, true, five...)
	twin := b.real.Twin()
	twin.Take()
	b.state()
	b.send(7, 1)
	b.send(7, 1)
	if n := twin.Len(); n != 4 {
		t.Errorf("P1401: the twin has %d items", n)
	}
}

// Whoever comes by the promoted Add waits beside messages, if there are any: they are received as ever, and the next message that is not among them is the task's.
func TestAddIsPromoted(t *testing.T) {
	for _, msgPri := range bothOrders {
		all := fourInOrder[msgPri]
		b := filled(t, msgPri, 9, four...)
		is(t, "Add", b.add(9, 1), api.OK)
		is(t, "Add of one who waits", b.add(9, 1), api.Obj)
		is(t, "Add of no task", b.add(17, 1), api.Par)
		b.holds(all...)
		is(t, "Send of a message in the box while a task waits", b.send(5, 1), sent{code: api.Obj})
		is(t, "Recv of one who waits", b.recv(9, 1), got(all[0]))
		is(t, "Poll", b.poll(), got(all[1]))
		is(t, "Send of 0 while a task waits", b.send(0, 1), sent{code: api.Par})
		b.wait(1)
		is(t, "Send while a task waits", b.send(all[0], 1), to(9))
		b.holds(all[2:]...)
		is(t, "Send while nobody waits", b.send(all[0], 9), added)
		b.empties(all[2], all[3], all[0])
		is(t, "Recv of nothing", b.recv(9, 1), nothing)
	}
}

// A zero Box is nobody's answer, but P1 holds of it, too.
func TestAZeroBoxDoesNotPanic(t *testing.T) {
	for _, call := range []func(x *Box){
		func(x *Box) { x.Send(1, 1) },
		func(x *Box) { x.Send(0, 0) },
		func(x *Box) { x.Recv(1, 1) },
		func(x *Box) { x.Recv(0, 0) },
		func(x *Box) { x.Poll() },
		func(x *Box) { x.Messages() },
		func(x *Box) { x.Apart().Send(2, 2) },
	} {
		x := new(Box)
		call(x)
		call(x.Apart())
		x.Send(3, 3)
		x.Messages()
		x.Poll()
		call(x)
	}
}

// draws are numbers that look drawn by lot, and are the same each time.
type draws uint64

func (d *draws) below(n int) int {
	*d = *d*6364136223846793005 + 1442695040888963407
	return int(uint64(*d>>33) % uint64(n))
}

func TestManyCallsAsTheModel(t *testing.T) {
	for seed := range 60 {
		d := draws(seed)
		most := []int{1, 2, 3, 9, 255}[seed%5]
		b := made(t, seed&1 == 0, seed&2 == 0, most)
		favour := 0 // at times more is sent, at times more received, so that messages and tasks wait in turn
		for i := range 300 {
			if i%50 == 0 {
				favour = d.below(5)
			}
			task, pri := d.below(18), 1+d.below([]int{2, 5, 17}[seed%3])
			msg, msgPri := d.below(41)-20, d.below(most+2)
			switch call := d.below(12); {
			case call < 2+favour:
				b.send(msg, msgPri)
			case call < 7:
				b.recv(task, pri)
			case call == 7:
				b.poll()
			case call == 8:
				b.remove(task)
			case call == 9:
				b.change(task, pri)
			case call == 10 && msg == 7: // seldom, as tasks that wait keep messages out
				b.add(task, pri)
			default:
				left := b.apart()
				left.send(msg, msgPri)
				b.recv(task, pri)
				left.poll()
				b.state()
				left.state()
			}
		}
	}
}

// P3: the same calls in the same order return the same.
func TestTheSameCallsReturnTheSame(t *testing.T) {
	run := func() []int {
		x, _ := NewBox(true, true, 9)
		var told []int
		d := draws(5)
		for range 300 {
			if d.below(2) == 0 {
				task, code := x.Send(d.below(60)-30, d.below(11))
				told = append(told, task, int(code))
			} else {
				msg, _, code := x.Recv(d.below(18), d.below(18))
				told = append(told, msg, int(code))
			}
			told = append(append(told, x.Len()), x.Messages()...)
		}
		return told
	}
	if a, b := run(), run(); !slices.Equal(a, b) {
		t.Errorf("P3: %v, and then %v", a, b)
	}
}
