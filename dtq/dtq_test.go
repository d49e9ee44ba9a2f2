package dtq

import (
	"cmp"
	"math"
	"slices"
	"testing"

	"detent/api"
)

var bothOrders = []bool{false, true}

// outside are neither tasks nor priorities. Many of them differ from one inside by a power of two.
var outside = []int{
	math.MinInt, math.MinInt + 1, -1 << 32, -1<<32 + 1, math.MinInt32, -256, -17, -16, -2, -1, 0,
	17, 18, 32, 33, 256, 257, 1<<16 + 1, math.MaxInt32, 1 << 32, 1<<32 + 1, math.MaxInt - 1, math.MaxInt,
}

// noRooms are below 0 or above 64.
var noRooms = []int{
	math.MinInt, math.MinInt + 1, -1 << 32, -1<<32 + 1, math.MinInt32, -65, -64, -2, -1,
	65, 66, 128, 256, 1 << 16, 1<<16 + 1, math.MaxInt32, 1 << 32, 1<<32 + 64, math.MaxInt - 1, math.MaxInt,
}

// numbers are data of all kinds; some of them could be mistaken for a task, or for none.
var numbers = []int{0, 5, 1, -1, math.MinInt, math.MaxInt, -5, 0, math.MinInt32 - 1, math.MaxInt32 + 1, -40, 16, 17, -16, 5}

// waiter is a task that waits; data is what it sends, if it does.
type waiter struct{ task, pri, data int }

// five are senders or receivers, in the order in which they come.
var five = []waiter{{3, 5, 300}, {1, 2, -100}, {4, 5, 0}, {16, 1, 1600}, {2, 2, 200}}

// fiveInOrder are the places of the five in their order, by byPri.
var fiveInOrder = map[bool][]int{false: {0, 1, 2, 3, 4}, true: {3, 1, 4, 0, 2}}

func ordered(byPri bool) []waiter {
	var row []waiter
	for _, at := range fiveInOrder[byPri] {
		row = append(row, five[at])
	}
	return row
}

func ids(row []waiter) []int {
	var ids []int
	for _, w := range row {
		ids = append(ids, w.task)
	}
	return ids
}

// sent is what Send and TrySend return, forced what Force does, received what Recv and TryRecv do; where a call returns no code, it is OK.
type sent struct {
	ok   bool
	task int
	code api.Code
}

type forced struct {
	task int
	code api.Code
}

type received struct {
	Got
	code api.Code
}

var (
	added   = sent{ok: true}
	waits   = sent{}
	nothing = received{}
)

func to(task int) sent { return sent{ok: true, task: task} }

func got(data int) received { return received{Got: Got{Data: data, OK: true}} }

func gotAnd(data, task int) received { return received{Got: Got{Data: data, OK: true, Task: task}} }

// model is the chapter's data queue in its plainest form: those who wait stand in the order in which they came, and the senders are sorted when they are asked for.
type model struct {
	byPri              bool
	room               int
	data               []int
	senders, receivers []waiter
}

func at(row []waiter, task int) int {
	return slices.IndexFunc(row, func(w waiter) bool { return w.task == task })
}

func leave(row *[]waiter, task int) bool {
	place := at(*row, task)
	if place >= 0 {
		*row = slices.Delete(*row, place, place+1)
	}
	return place >= 0
}

func inside(n int) bool { return n >= 1 && n <= 16 }

func (m *model) sending() []waiter {
	row := slices.Clone(m.senders)
	if m.byPri {
		slices.SortStableFunc(row, func(a, b waiter) int { return cmp.Compare(a.pri, b.pri) })
	}
	return row
}

func (m *model) trySend(data int) sent {
	switch {
	case len(m.receivers) > 0:
		first := m.receivers[0].task
		leave(&m.receivers, first)
		return to(first)
	case len(m.data) < m.room:
		m.data = append(m.data, data)
		return added
	}
	return waits
}

// refusal is the code of a task that is to wait.
func (m *model) refusal(w waiter) api.Code {
	switch {
	case !inside(w.task) || !inside(w.pri):
		return api.Par
	case at(m.senders, w.task) >= 0 || at(m.receivers, w.task) >= 0:
		return api.Obj
	}
	return api.OK
}

func (m *model) send(w waiter) sent {
	if got := m.trySend(w.data); got.ok {
		return got
	}
	code := m.refusal(w)
	if code == api.OK {
		m.senders = append(m.senders, w)
	}
	return sent{code: code}
}

func (m *model) force(data int) forced {
	if m.room == 0 {
		return forced{code: api.Iluse}
	}
	if len(m.receivers) == 0 && len(m.data) == m.room {
		m.data = m.data[1:]
	}
	return forced{task: m.trySend(data).task}
}

func (m *model) tryRecv() received {
	sending := m.sending()
	switch {
	case len(m.data) > 0:
		oldest := m.data[0]
		m.data = m.data[1:]
		if len(sending) == 0 {
			return got(oldest)
		}
		leave(&m.senders, sending[0].task)
		m.data = append(m.data, sending[0].data)
		return gotAnd(oldest, sending[0].task)
	case m.room == 0 && len(sending) > 0:
		leave(&m.senders, sending[0].task)
		return gotAnd(sending[0].data, sending[0].task)
	}
	return nothing
}

func (m *model) recv(task, pri int) received {
	if got := m.tryRecv(); got.OK {
		return got
	}
	w := waiter{task: task, pri: pri}
	code := m.refusal(w)
	if code == api.OK {
		m.receivers = append(m.receivers, w)
	}
	return received{code: code}
}

func (m *model) drop(task int) bool {
	return leave(&m.senders, task) || leave(&m.receivers, task)
}

func (m *model) change(task, pri int) bool {
	if !inside(pri) {
		return false
	}
	if place := at(m.senders, task); place >= 0 {
		w := m.senders[place]
		w.pri = pri
		if m.byPri { // behind its new equals
			leave(&m.senders, task)
			m.senders = append(m.senders, w)
		} else {
			m.senders[place] = w
		}
		return true
	}
	return at(m.receivers, task) >= 0
}

func (m *model) twin() *model {
	c := *m
	c.data, c.senders, c.receivers = slices.Clone(m.data), slices.Clone(m.senders), slices.Clone(m.receivers)
	return &c
}

// both is a data queue beside its model: each call is made on the two, the answers are held against each other, and then all that can be observed.
type both struct {
	t    *testing.T
	real *Queue
	want *model
}

func made(t *testing.T, byPri bool, room int) *both {
	t.Helper()
	q, code := New(byPri, room)
	if q == nil || code != api.OK {
		t.Fatalf("P1301: New(%v, %d) is %v, %v", byPri, room, q, code)
	}
	b := &both{t, q, &model{byPri: byPri, room: room}}
	b.state()
	return b
}

// filled is a data queue with as many numbers as it has room for: 1000, 1001, and so on.
func filled(t *testing.T, byPri bool, room int) *both {
	t.Helper()
	b := made(t, byPri, room)
	for i := range room {
		is(t, "TrySend with room", b.trySend(1000+i), added)
	}
	return b
}

// sendersWait is a full data queue to which these wait to send.
func sendersWait(t *testing.T, byPri bool, room int, tasks ...waiter) *both {
	t.Helper()
	b := filled(t, byPri, room)
	for _, w := range tasks {
		is(t, "Send without room", b.send(w.task, w.pri, w.data), waits)
	}
	return b
}

// receiversWait is an empty data queue from which these wait to receive.
func receiversWait(t *testing.T, byPri bool, room int, tasks ...waiter) *both {
	t.Helper()
	b := made(t, byPri, room)
	for _, w := range tasks {
		is(t, "Recv of nothing", b.recv(w.task, w.pri), nothing)
	}
	return b
}

// is holds an answer against one that the test itself writes.
func is[T comparable](t *testing.T, what string, got, want T) {
	t.Helper()
	if got != want {
		t.Errorf("P1301: %s is %v, not %v", what, got, want)
	}
}

func (b *both) send(task, pri, data int) sent {
	b.t.Helper()
	ok, who, code := b.real.Send(task, pri, data)
	got := sent{ok, who, code}
	is(b.t, "Send", got, b.want.send(waiter{task, pri, data}))
	b.state()
	return got
}

func (b *both) trySend(data int) sent {
	b.t.Helper()
	ok, who := b.real.TrySend(data)
	got := sent{ok: ok, task: who}
	is(b.t, "TrySend", got, b.want.trySend(data))
	b.state()
	return got
}

func (b *both) force(data int) forced {
	b.t.Helper()
	who, code := b.real.Force(data)
	got := forced{who, code}
	is(b.t, "Force", got, b.want.force(data))
	b.state()
	return got
}

func (b *both) recv(task, pri int) received {
	b.t.Helper()
	g, code := b.real.Recv(task, pri)
	got := received{g, code}
	is(b.t, "Recv", got, b.want.recv(task, pri))
	b.state()
	return got
}

func (b *both) tryRecv() received {
	b.t.Helper()
	got := received{Got: b.real.TryRecv()}
	is(b.t, "TryRecv", got, b.want.tryRecv())
	b.state()
	return got
}

func (b *both) drop(task int) bool {
	b.t.Helper()
	got := b.real.Drop(task)
	is(b.t, "Drop", got, b.want.drop(task))
	b.state()
	return got
}

func (b *both) change(task, pri int) bool {
	b.t.Helper()
	got := b.real.Change(task, pri)
	is(b.t, "Change", got, b.want.change(task, pri))
	b.state()
	return got
}

func (b *both) twin() *both {
	b.t.Helper()
	q := b.real.Twin()
	if q == nil || q == b.real {
		b.t.Fatalf("P1301: the twin of %p is %p", b.real, q)
	}
	twin := &both{b.t, q, b.want.twin()}
	twin.state()
	b.state()
	return twin
}

// state asks for all that can be observed; what the senders send, and where one more would stand, is asked of twins.
func (b *both) state() {
	b.t.Helper()
	b.holds(b.want.data, ids(b.want.sending()), ids(b.want.receivers))
	q, m := b.real.Twin(), b.want.twin()
	for left := true; left; {
		got, want := q.TryRecv(), m.tryRecv()
		if got != want.Got {
			b.t.Fatalf("P1301: a TryRecv later would be %v, not %v", got, want)
		}
		left = got.OK
	}
	more := 1
	for more < 16 && (at(b.want.senders, more) >= 0 || at(b.want.receivers, more) >= 0) {
		more++
	}
	for pri := 1; pri <= 16 && len(b.want.senders) > 0; pri += 5 {
		q, m := b.real.Twin(), b.want.twin()
		q.Send(more, pri, 1)
		m.send(waiter{more, pri, 1})
		if got, want := q.Senders(), ids(m.sending()); !slices.Equal(got, want) {
			b.t.Errorf("P1301: with one more of priority %d, %v would wait to send, not %v", pri, got, want)
		}
	}
}

// holds is of what the queue has.
func (b *both) holds(data, senders, receivers []int) {
	b.t.Helper()
	for _, c := range []struct {
		what      string
		got, want []int
	}{{"Data", b.real.Data(), data}, {"Senders", b.real.Senders(), senders}, {"Receivers", b.real.Receivers(), receivers}} {
		if !slices.Equal(c.got, c.want) {
			b.t.Errorf("P1301: %s is %v, not %v", c.what, c.got, c.want)
		}
	}
}

// empties receives all of the data, and then what these send, who wait in this order: each receipt releases the next of them.
func (b *both) empties(data []int, row []waiter) {
	b.t.Helper()
	for _, w := range row {
		data = append(data, w.data)
	}
	for i, n := range data {
		want := got(n)
		if i < len(row) {
			want.Task = row[i].task
		}
		is(b.t, "TryRecv", b.tryRecv(), want)
	}
	is(b.t, "TryRecv of nothing", b.tryRecv(), nothing)
	b.holds(nil, nil, nil)
}

// upTo are the numbers from first on, one less than end the last.
func upTo(first, end int) []int {
	var row []int
	for n := first; n < end; n++ {
		row = append(row, n)
	}
	return row
}

func TestTheLimits(t *testing.T) {
	if api.MaxTasks != 16 || api.MaxPri != 16 || api.MaxData != 64 {
		t.Fatal("the tests speak of 16 tasks, 16 priorities, and a room of 64")
	}
}

func TestTheChaptersExample(t *testing.T) {
	q, code := New(true, 2)
	if q == nil || code != api.OK {
		t.Fatalf("P1301: New is %v", code)
	}
	q.TrySend(10)
	q.TrySend(20)
	for _, w := range []waiter{{1, 5, 30}, {2, 3, -40}, {3, 5, 50}} {
		if ok, who, code := q.Send(w.task, w.pri, w.data); ok || who != 0 || code != api.OK {
			t.Errorf("P1301: Send of %v is %v, %d, %v", w, ok, who, code)
		}
	}
	if senders := q.Senders(); !slices.Equal(senders, []int{2, 1, 3}) {
		t.Errorf("P1301: %v wait to send", senders)
	}
	if got, code := q.Recv(4, 1); got != (Got{10, true, 2}) || code != api.OK {
		t.Errorf("P1301: Recv is %v, %v", got, code)
	}
	if who, code := q.Force(60); who != 0 || code != api.OK {
		t.Errorf("P1301: Force is %d, %v", who, code)
	}
	if data := q.Data(); !slices.Equal(data, []int{-40, 60}) {
		t.Errorf("P1301: Data is %v", data)
	}
}

func TestNew(t *testing.T) {
	for _, byPri := range bothOrders {
		for room := 0; room <= 64; room++ {
			b := made(t, byPri, room)
			b.holds(nil, nil, nil)
			is(t, "TryRecv of a new queue", b.tryRecv(), nothing)
			for i := range room {
				is(t, "TrySend with room", b.trySend(i), added)
			}
			is(t, "TrySend without room", b.trySend(99), waits)
			b.holds(upTo(0, room), nil, nil)
		}
	}
}

func TestNewRefuses(t *testing.T) {
	for _, byPri := range bothOrders {
		for _, room := range noRooms {
			if q, code := New(byPri, room); q != nil || code != api.Par {
				t.Errorf("P1301, P4: New(%v, %d) is %v, %v", byPri, room, q, code)
			}
		}
	}
}

func TestNewQueuesShareNothing(t *testing.T) {
	for _, byPri := range bothOrders {
		a, b := made(t, byPri, 1), made(t, byPri, 1)
		a.recv(1, 1)
		b.state()
		b.trySend(7)
		b.send(1, 1, 8)
		a.state()
		a.force(9)
		a.trySend(10)
		b.holds([]int{7}, []int{1}, nil)
		a.holds([]int{10}, nil, nil)
		made(t, byPri, 1).holds(nil, nil, nil)
	}
}

func TestSendWithRoom(t *testing.T) {
	for _, byPri := range bothOrders {
		for _, room := range []int{1, 2, 3, 63, 64} {
			b := made(t, byPri, room)
			for i := range room {
				is(t, "Send with room", b.send(1+i%16, 16-i%16, 10*i-50), added)
			}
			is(t, "Send without room", b.send(1, 1, 5), waits)
			is(t, "TryRecv of a full queue", b.tryRecv(), gotAnd(-50, 1))
			if room > 1 {
				is(t, "TryRecv", b.tryRecv(), got(-40))
				is(t, "Send with room again", b.send(2, 2, 6), added)
			}
			is(t, "Send without room again", b.send(2, 2, 7), waits)
		}
	}
}

// The chapter asks nothing of task and pri as long as the task does not have to wait.
func TestSendWithRoomAsksNothingOfTheTask(t *testing.T) {
	for _, byPri := range bothOrders {
		b := made(t, byPri, 64)
		for i, n := range outside {
			w := []waiter{{n, 1, i}, {1, n, i}, {n, n, i}}[i%3]
			is(t, "Send with room", b.send(w.task, w.pri, w.data), added)
		}
		b.holds(upTo(0, len(outside)), nil, nil)
	}
}

func TestSendReleasesTheFirstReceiver(t *testing.T) {
	for _, byPri := range bothOrders {
		for _, room := range []int{0, 1, 64} {
			b := receiversWait(t, byPri, room, five...)
			for i, w := range five {
				is(t, "Send to a receiver", b.send(9, 1+i, numbers[i]), to(w.task))
				b.holds(nil, nil, ids(five[i+1:])) // the receiver has the number: it is not added as well
			}
			is(t, "TryRecv", b.tryRecv(), nothing)
		}
	}
}

func TestSendToAReceiverAsksNothingOfTheTask(t *testing.T) {
	for _, room := range []int{0, 1} {
		for _, n := range outside {
			b := receiversWait(t, true, room, five[:3]...)
			is(t, "Send to a receiver", b.send(n, 1, 7), to(3))
			is(t, "Send to a receiver", b.send(1, n, 7), to(1))
			is(t, "Send to a receiver", b.send(n, n, 7), to(4))
		}
	}
}

// Nobody has to wait to send while a task waits to receive; so Send releases the first receiver, also if the sender is one.
func TestSendOfOneWhoWaitsToReceive(t *testing.T) {
	for _, room := range []int{0, 1, 2} {
		b := receiversWait(t, true, room, five[:2]...)
		is(t, "Send of the second receiver", b.send(1, 1, 7), to(3))
		is(t, "Send of the only receiver", b.send(1, 1, 8), to(1))
		b.holds(nil, nil, nil)
	}
}

func TestSendWithoutRoomOfEveryTaskWithEveryPriority(t *testing.T) {
	for _, byPri := range bothOrders {
		for _, room := range []int{0, 1} {
			for task := 1; task <= 16; task++ {
				for pri := 1; pri <= 16; pri++ {
					b := sendersWait(t, byPri, room, waiter{task, pri, -7})
					b.holds(upTo(1000, 1000+room), []int{task}, nil)
				}
			}
		}
	}
}

func TestTrySend(t *testing.T) {
	for _, byPri := range bothOrders {
		b := receiversWait(t, byPri, 2, five[:2]...)
		is(t, "TrySend to a receiver", b.trySend(1), to(3))
		is(t, "TrySend to a receiver", b.trySend(2), to(1))
		b.holds(nil, nil, nil)
		is(t, "TrySend with room", b.trySend(3), added)
		is(t, "TrySend with room", b.trySend(4), added)
		is(t, "TrySend without room", b.trySend(5), waits)
		b.holds([]int{3, 4}, nil, nil)
		b.send(6, 6, 6)
		is(t, "TrySend behind a sender", b.trySend(7), waits)
		b.holds([]int{3, 4}, []int{6}, nil)
		none := made(t, byPri, 0)
		is(t, "TrySend with room 0", none.trySend(8), waits)
		none.recv(7, 7)
		is(t, "TrySend with room 0 to a receiver", none.trySend(9), to(7))
		is(t, "TrySend with room 0", none.trySend(10), waits)
		none.holds(nil, nil, nil)
	}
}

func TestForceWithRoom(t *testing.T) {
	for _, room := range []int{1, 2, 64} {
		b := made(t, false, room)
		for i := range room {
			is(t, "Force with room", b.force(i), forced{})
			b.holds(upTo(0, i+1), nil, nil)
		}
	}
}

func TestForceWithoutRoomDropsTheOldest(t *testing.T) {
	for _, room := range []int{1, 2, 3, 64} {
		b := filled(t, false, room)
		for i := range 2*room + 1 {
			is(t, "Force without room", b.force(1000+room+i), forced{})
			b.holds(upTo(1001+i, 1001+room+i), nil, nil)
		}
		is(t, "TrySend without room", b.trySend(1), waits)
	}
}

func TestForceToAReceiver(t *testing.T) {
	for _, byPri := range bothOrders {
		for _, room := range []int{1, 64} {
			b := receiversWait(t, byPri, room, five...)
			for i, w := range five {
				is(t, "Force to a receiver", b.force(numbers[i]), forced{task: w.task})
				b.holds(nil, nil, ids(five[i+1:]))
			}
			is(t, "Force with room", b.force(6), forced{})
			b.holds([]int{6}, nil, nil)
		}
	}
}

// What those who wait send is not forced away, and they wait on.
func TestForceWhileSendersWait(t *testing.T) {
	for _, byPri := range bothOrders {
		row := ordered(byPri)
		b := sendersWait(t, byPri, 2, five...)
		is(t, "Force before senders", b.force(1), forced{})
		is(t, "Force before senders", b.force(-2), forced{})
		b.holds([]int{1, -2}, ids(row), nil)
		is(t, "TryRecv", b.tryRecv(), gotAnd(1, row[0].task))
		is(t, "Force before senders", b.force(3), forced{})
		b.holds([]int{row[0].data, 3}, ids(row[1:]), nil)
	}
}

func TestForceWithRoom0(t *testing.T) {
	for _, byPri := range bothOrders {
		refused := forced{code: api.Iluse}
		b := made(t, byPri, 0)
		is(t, "Force with room 0", b.force(1), refused)
		b.holds(nil, nil, nil)
		receiving := receiversWait(t, byPri, 0, five...)
		is(t, "Force with room 0 while tasks wait to receive", receiving.force(1), refused)
		receiving.holds(nil, nil, ids(five))
		sending := sendersWait(t, byPri, 0, five...)
		is(t, "Force with room 0 while tasks wait to send", sending.force(1), refused)
		sending.holds(nil, ids(ordered(byPri)), nil)
	}
}

func TestRecvWithDataAndNoSender(t *testing.T) {
	for _, room := range []int{1, 2, 64} {
		b := filled(t, true, room)
		for i := range room {
			receive := func() received { return b.recv(1+i%16, 1) }
			if i%2 == 1 {
				receive = b.tryRecv
			}
			is(t, "a receipt with data", receive(), got(1000+i))
			b.holds(upTo(1001+i, 1000+room), nil, nil)
		}
		is(t, "TryRecv of nothing", b.tryRecv(), nothing)
		is(t, "Recv of nothing", b.recv(1, 1), nothing)
	}
}

// Each sender's data is behind the others then, and the sender does not wait any more.
func TestRecvWithDataAndSenders(t *testing.T) {
	for _, byPri := range bothOrders {
		row := ordered(byPri)
		for _, room := range []int{1, 2, 3, 64} {
			one, other := sendersWait(t, byPri, room, five...), sendersWait(t, byPri, room, five...)
			come := upTo(1000, 1000+room)
			for i, w := range row {
				want := gotAnd(come[i], w.task)
				is(t, "Recv with data and a sender", one.recv(9, 9), want)
				is(t, "TryRecv with data and a sender", other.tryRecv(), want)
				come = append(come, w.data)
				one.holds(come[i+1:], ids(row[i+1:]), nil)
			}
			for _, data := range come[len(row):] {
				is(t, "Recv with data", one.recv(9, 9), got(data))
				is(t, "TryRecv with data", other.tryRecv(), got(data))
			}
			is(t, "Recv of nothing", one.recv(9, 9), nothing)
			is(t, "TryRecv of nothing", other.tryRecv(), nothing)
		}
	}
}

func TestRecvWithRoom0(t *testing.T) {
	for _, byPri := range bothOrders {
		row := ordered(byPri)
		one, other := sendersWait(t, byPri, 0, five...), sendersWait(t, byPri, 0, five...)
		for i, w := range row {
			is(t, "Recv with room 0", one.recv(9, 9), gotAnd(w.data, w.task))
			is(t, "TryRecv with room 0", other.tryRecv(), gotAnd(w.data, w.task))
			one.holds(nil, ids(row[i+1:]), nil)
		}
		is(t, "Recv of nothing", one.recv(9, 9), nothing)
		is(t, "TryRecv of nothing", other.tryRecv(), nothing)
		one.holds(nil, nil, []int{9})
		other.holds(nil, nil, nil)
	}
}

func TestRecvOfNothingByEveryTaskWithEveryPriority(t *testing.T) {
	for _, room := range []int{0, 1, 64} {
		for task := 1; task <= 16; task++ {
			for pri := 1; pri <= 16; pri++ {
				b := receiversWait(t, true, room, waiter{task: task, pri: pri})
				b.holds(nil, nil, []int{task})
				is(t, "TryRecv of nothing", b.tryRecv(), nothing)
				b.holds(nil, nil, []int{task}) // a TryRecv waits for nothing
			}
		}
	}
}

// The chapter asks nothing of task and pri as long as the task does not have to wait.
func TestRecvThatGetsAsksNothingOfTheTask(t *testing.T) {
	for _, n := range outside {
		b := filled(t, true, 3)
		is(t, "Recv with data", b.recv(n, 1), got(1000))
		is(t, "Recv with data", b.recv(1, n), got(1001))
		is(t, "Recv with data", b.recv(n, n), got(1002))
		none := sendersWait(t, false, 0, five...)
		is(t, "Recv with room 0", none.recv(n, 1), gotAnd(300, 3))
		is(t, "Recv with room 0", none.recv(1, n), gotAnd(-100, 1))
		is(t, "Recv with room 0", none.recv(n, n), gotAnd(0, 4))
	}
}

// Nobody has to wait to receive while a task waits to send; so Recv releases the first sender, also if the receiver is one.
func TestRecvOfOneWhoWaitsToSend(t *testing.T) {
	b := sendersWait(t, true, 0, waiter{1, 1, 7}, waiter{2, 2, 8})
	is(t, "Recv of the second sender", b.recv(2, 2), gotAnd(7, 1))
	is(t, "Recv of the only sender", b.recv(2, 2), gotAnd(8, 2))
	b.holds(nil, nil, nil)
	b = sendersWait(t, true, 1, waiter{1, 1, 7}, waiter{2, 2, 8})
	is(t, "Recv of the second sender", b.recv(2, 2), gotAnd(1000, 1))
	is(t, "Recv of the only sender", b.recv(2, 2), gotAnd(7, 2))
	b.holds([]int{8}, nil, nil)
}

// Every number goes by each way: through the queue, from a sender to the queue, from a sender to a receiver, and to a receiver that waits.
func TestNumbersOfAllKinds(t *testing.T) {
	for _, n := range numbers {
		b := made(t, true, 2)
		b.trySend(n)
		b.force(n)
		is(t, "Send without room", b.send(1, 1, n), waits)
		b.holds([]int{n, n}, []int{1}, nil)
		is(t, "Recv", b.recv(2, 2), gotAnd(n, 1))
		is(t, "Recv", b.recv(2, 2), got(n))
		is(t, "TryRecv", b.tryRecv(), got(n))
		b.recv(2, 2)
		is(t, "Send to a receiver", b.send(1, 1, n), to(2))
		none := sendersWait(t, true, 0, waiter{1, 1, n})
		is(t, "Recv with room 0", none.recv(2, 2), gotAnd(n, 1))
	}
	b := made(t, false, len(numbers))
	for _, n := range numbers {
		b.trySend(n)
	}
	b.holds(numbers, nil, nil)
	for _, n := range numbers {
		is(t, "TryRecv", b.tryRecv(), got(n))
	}
}

func TestSendersInTheirOrder(t *testing.T) {
	for _, byPri := range bothOrders {
		for _, room := range []int{0, 1, 2} {
			b := sendersWait(t, byPri, room, five...)
			b.holds(upTo(1000, 1000+room), ids(ordered(byPri)), nil)
		}
		for _, pri := range []int{1, 8, 16} {
			b := filled(t, byPri, 1)
			came := []int{16, 1, 15, 2, 14, 3, 13, 4, 12, 5, 11, 6, 10, 7, 9, 8}
			for _, task := range came {
				b.send(task, pri, -task)
			}
			b.holds([]int{1000}, came, nil)
		}
		b := filled(t, byPri, 0)
		for task := 1; task <= 16; task++ {
			b.send(task, 17-task, task)
		}
		tasks := upTo(1, 17)
		if byPri {
			slices.Reverse(tasks)
		}
		b.holds(nil, tasks, nil)
	}
}

// Priorities have no say in it, with byPri either.
func TestReceiversInTheOrderInWhichTheyCame(t *testing.T) {
	for _, byPri := range bothOrders {
		for _, room := range []int{0, 2} {
			b := receiversWait(t, byPri, room, five...)
			b.holds(nil, nil, ids(five))
			down, up := made(t, byPri, room), made(t, byPri, room)
			for task := 1; task <= 16; task++ {
				down.recv(task, 17-task)
				up.recv(task, task)
			}
			down.holds(nil, nil, upTo(1, 17))
			up.holds(nil, nil, upTo(1, 17))
			for task := 1; task <= 16; task++ {
				is(t, "TrySend to a receiver", down.trySend(task), to(task))
			}
		}
	}
}

func without(row []waiter, task int) []waiter {
	return slices.DeleteFunc(slices.Clone(row), func(w waiter) bool { return w.task == task })
}

func TestDropOfASender(t *testing.T) {
	for _, byPri := range bothOrders {
		for _, room := range []int{0, 1, 2} {
			for _, gone := range ids(five) {
				b := sendersWait(t, byPri, room, five...)
				rest := without(ordered(byPri), gone)
				is(t, "Drop of a sender", b.drop(gone), true)
				b.holds(upTo(1000, 1000+room), ids(rest), nil)
				is(t, "Drop of one who does not wait any more", b.drop(gone), false)
				b.empties(upTo(1000, 1000+room), rest) // what the dropped one would have sent does not come
			}
		}
	}
}

func TestDropOfAReceiver(t *testing.T) {
	for _, byPri := range bothOrders {
		for _, room := range []int{0, 2} {
			for _, gone := range ids(five) {
				b := receiversWait(t, byPri, room, five...)
				is(t, "Drop of a receiver", b.drop(gone), true)
				b.holds(nil, nil, ids(without(five, gone)))
				is(t, "Drop of one who does not wait any more", b.drop(gone), false)
				for _, w := range without(five, gone) { // the dropped one gets nothing
					is(t, "TrySend to a receiver", b.trySend(1), to(w.task))
				}
				b.holds(nil, nil, nil)
			}
		}
	}
}

func TestDropOfOneWhoDoesNotWait(t *testing.T) {
	for _, byPri := range bothOrders {
		for _, b := range []*both{made(t, byPri, 2), filled(t, byPri, 2), sendersWait(t, byPri, 2, five...), receiversWait(t, byPri, 2, five...)} {
			for _, task := range append([]int{5, 9, 15}, outside...) {
				is(t, "Drop of one who does not wait", b.drop(task), false)
			}
		}
		b := sendersWait(t, byPri, 1, waiter{1, 1, 7})
		b.tryRecv()
		is(t, "Drop of a sender that was released", b.drop(1), false)
		b.holds([]int{7}, nil, nil)
		b = receiversWait(t, byPri, 1, waiter{task: 1, pri: 1})
		b.trySend(7)
		is(t, "Drop of a receiver that was released", b.drop(1), false)
	}
}

// Whoever does not wait any more may wait again, with other data or for the other thing, and comes as if for the first time.
func TestWaitingAgain(t *testing.T) {
	for _, byPri := range bothOrders {
		b := sendersWait(t, byPri, 1, waiter{1, 5, 7}, waiter{2, 5, 8})
		b.drop(1)
		is(t, "Send without room", b.send(1, 5, -9), waits)
		b.holds([]int{1000}, []int{2, 1}, nil)
		is(t, "TryRecv", b.tryRecv(), gotAnd(1000, 2))
		is(t, "Send without room", b.send(2, 5, 10), waits) // released, and here again
		is(t, "TryRecv", b.tryRecv(), gotAnd(8, 1))
		is(t, "TryRecv", b.tryRecv(), gotAnd(-9, 2))
		is(t, "TryRecv", b.tryRecv(), got(10))
		b.recv(1, 5)
		b.recv(2, 5)
		b.drop(1)
		is(t, "Recv of nothing", b.recv(1, 5), nothing)
		b.holds(nil, nil, []int{2, 1})
		b.drop(1)
		b.drop(2)
		b.trySend(11)
		is(t, "Send of one who waited to receive", b.send(1, 5, 12), waits)
		b.drop(1)
		b.tryRecv()
		is(t, "Recv of one who waited to send", b.recv(1, 5), nothing)
		is(t, "TrySend to a receiver", b.trySend(13), to(1))
		b.holds(nil, nil, nil)
	}
}

func TestChangeOfASender(t *testing.T) {
	for _, c := range []struct {
		task, pri int
		row       []int // with byPri, where the five are 16, 1, 2, 3, 4
	}{
		{4, 1, []int{16, 4, 1, 2, 3}},
		{16, 16, []int{1, 2, 3, 4, 16}},
		{16, 2, []int{1, 2, 16, 3, 4}},
		{1, 2, []int{16, 2, 1, 3, 4}}, // the same: behind its equals
		{2, 2, []int{16, 1, 2, 3, 4}},
		{3, 3, []int{16, 1, 2, 3, 4}},
		{1, 5, []int{16, 2, 3, 4, 1}},
	} {
		for _, room := range []int{0, 1, 2} {
			b := sendersWait(t, true, room, five...)
			is(t, "Change of a sender", b.change(c.task, c.pri), true)
			b.holds(upTo(1000, 1000+room), c.row, nil)
			var row []waiter
			for _, task := range c.row { // each sends what it sent before
				row = append(row, five[at(five, task)])
			}
			b.empties(upTo(1000, 1000+room), row)
			plain := sendersWait(t, false, room, five...)
			is(t, "Change of a sender", plain.change(c.task, c.pri), true)
			plain.holds(upTo(1000, 1000+room), ids(five), nil)
		}
	}
}

func TestChangeOfAReceiver(t *testing.T) {
	for _, byPri := range bothOrders {
		for _, room := range []int{0, 2} {
			b := receiversWait(t, byPri, room, five...)
			for _, w := range five {
				for pri := 1; pri <= 16; pri++ {
					is(t, "Change of a receiver", b.change(w.task, pri), true)
				}
			}
			b.holds(nil, nil, ids(five))
		}
	}
}

func TestChangeRefuses(t *testing.T) {
	for _, byPri := range bothOrders {
		for _, b := range []*both{made(t, byPri, 2), filled(t, byPri, 2), sendersWait(t, byPri, 2, five...), receiversWait(t, byPri, 2, five...)} {
			data, senders, receivers := b.real.Data(), b.real.Senders(), b.real.Receivers()
			for _, task := range append([]int{5, 9, 15}, outside...) {
				for _, pri := range []int{0, 1, 5, 16, 17} {
					is(t, "Change of one who does not wait", b.change(task, pri), false)
				}
			}
			for _, task := range ids(five) {
				for _, pri := range outside {
					is(t, "Change to no priority", b.change(task, pri), false)
				}
			}
			b.holds(data, senders, receivers)
		}
		b := sendersWait(t, byPri, 1, waiter{1, 1, 7})
		b.drop(1)
		is(t, "Change of one who was dropped", b.change(1, 1), false)
	}
}

func TestTasksAndPrioritiesThatMayNotWait(t *testing.T) {
	for _, byPri := range bothOrders {
		for _, room := range []int{0, 2} {
			sending, receiving := sendersWait(t, byPri, room, five...), receiversWait(t, byPri, room, five...)
			full, empty := filled(t, byPri, room), made(t, byPri, room)
			for _, bad := range outside {
				for _, other := range append([]int{1, 3, 9, 16}, outside...) { // also for a task that waits: Par comes before Obj
					for _, w := range []waiter{{bad, other, 7}, {other, bad, 7}} {
						is(t, "Send", sending.send(w.task, w.pri, w.data), sent{code: api.Par})
						is(t, "Send", full.send(w.task, w.pri, w.data), sent{code: api.Par})
						is(t, "Recv", receiving.recv(w.task, w.pri), received{code: api.Par})
						is(t, "Recv", empty.recv(w.task, w.pri), received{code: api.Par})
					}
				}
			}
			sending.holds(upTo(1000, 1000+room), ids(ordered(byPri)), nil)
			receiving.holds(nil, nil, ids(five))
			full.holds(upTo(1000, 1000+room), nil, nil)
			empty.holds(nil, nil, nil)
		}
	}
}

func TestOneWhoWaitsAlready(t *testing.T) {
	for _, byPri := range bothOrders {
		for _, room := range []int{0, 1, 2} {
			sending, receiving := sendersWait(t, byPri, room, five...), receiversWait(t, byPri, room, five...)
			for _, w := range five {
				for pri := 1; pri <= 16; pri++ {
					is(t, "Send of one who waits to send", sending.send(w.task, pri, w.data+1), sent{code: api.Obj})
					is(t, "Recv of one who waits to receive", receiving.recv(w.task, pri), received{code: api.Obj})
				}
			}
			sending.holds(upTo(1000, 1000+room), ids(ordered(byPri)), nil)
			receiving.holds(nil, nil, ids(five))
			sending.empties(upTo(1000, 1000+room), ordered(byPri)) // what was refused is not sent
		}
	}
}

// Rows that are handed out are the caller's own, whatever their length is.
func TestRowsAreTheCallersOwn(t *testing.T) {
	for n := range len(five) + 1 {
		for _, b := range []*both{filled(t, true, n), sendersWait(t, true, n, five[:n]...), receiversWait(t, true, n, five[:n]...)} {
			ask := []func() []int{b.real.Data, b.real.Senders, b.real.Receivers}
			for _, rows := range ask {
				row := rows()
				row = row[:cap(row)]
				for i := range row {
					row[i] = 77
				}
				b.state()
			}
			before := [][]int{b.real.Data(), b.real.Senders(), b.real.Receivers()}
			kept := [][]int{slices.Clone(before[0]), slices.Clone(before[1]), slices.Clone(before[2])}
			b.tryRecv()
			b.force(5)
			b.drop(3)
			b.change(1, 16)
			for i := range before {
				if !slices.Equal(before[i], kept[i]) {
					t.Errorf("P2: a row that was handed out is %v now, not %v", before[i], kept[i])
				}
			}
		}
	}
}

func TestTwinWithDataAndSenders(t *testing.T) {
	for _, byPri := range bothOrders {
		row := ordered(byPri)
		b := sendersWait(t, byPri, 2, five...)
		twin := b.twin()
		b.drop(row[0].task)
		b.send(row[0].task, 16, 7) // the same task, other data
		b.change(row[1].task, 16)
		b.force(8)
		b.recv(9, 9)
		twin.holds([]int{1000, 1001}, ids(row), nil)
		data, senders := b.real.Data(), b.real.Senders()
		twin.empties([]int{1000, 1001}, row)
		twin.force(-1)
		twin.recv(9, 9)
		b.holds(data, senders, nil)
		b.state()
	}
}

func TestTwinWithReceivers(t *testing.T) {
	for _, byPri := range bothOrders {
		for _, room := range []int{0, 1} {
			b := receiversWait(t, byPri, room, five...)
			twin := b.twin()
			b.drop(3)
			b.trySend(1)
			b.recv(9, 9)
			twin.holds(nil, nil, ids(five))
			twin.drop(2)
			twin.recv(10, 1)
			b.holds(nil, nil, []int{4, 16, 2, 9})
			is(t, "TrySend to a twin's receiver", twin.trySend(1), to(3))
			twin.holds(nil, nil, []int{1, 4, 16, 10})
			b.state()
		}
	}
}

// The twin keeps byPri and the room, also if it is made of an empty queue, and if it is the twin of a twin.
func TestTwinKeepsTheQueuesWays(t *testing.T) {
	for _, byPri := range bothOrders {
		for _, room := range []int{0, 1, 2, 63, 64} {
			b := made(t, byPri, room).twin().twin()
			for i := range room {
				is(t, "TrySend with room", b.trySend(i), added)
			}
			is(t, "TrySend without room", b.trySend(99), waits)
			for _, w := range five {
				b.send(w.task, w.pri, w.data)
			}
			b.twin().holds(upTo(0, room), ids(ordered(byPri)), nil)
		}
	}
}

// Twins that have added to equal data have not added to the same memory.
func TestTwinsGrowApart(t *testing.T) {
	b := made(t, true, 64)
	for i := range 40 {
		b.trySend(i)
		twin := b.twin()
		twin.trySend(-1)
		b.force(100 + i)
		b.tryRecv()
		twin.state()
		b.state()
	}
}

func TestNumbersComeInTheOrderInWhichTheyWereSent(t *testing.T) {
	for _, byPri := range bothOrders {
		for _, room := range []int{0, 1, 2, 7, 64} {
			q, _ := New(byPri, room)
			next, come := 0, 0
			d := draws(room)
			for range 20000 {
				if d.below(2) == 0 {
					if ok, _, code := q.Send(1+next%16, 8, next); code == api.OK {
						next++
					} else if ok || code != api.Obj {
						t.Fatalf("P1301: Send is %v, %v", ok, code)
					}
				} else if got := q.TryRecv(); got.OK {
					if got.Data != come {
						t.Fatalf("P1301: %d came, not %d", got.Data, come)
					}
					come++
				}
			}
			if come < 5000 || next-come > room+16 {
				t.Errorf("P1301: of %d numbers, %d came", next, come)
			}
		}
	}
}

// A zero Queue is nobody's answer, but P1 holds of it, too.
func TestAZeroQueueDoesNotPanic(t *testing.T) {
	for _, call := range []func(q *Queue){
		func(q *Queue) { q.Send(1, 1, 1) },
		func(q *Queue) { q.TrySend(1) },
		func(q *Queue) { q.Force(1) },
		func(q *Queue) { q.Recv(1, 1) },
		func(q *Queue) { q.TryRecv() },
		func(q *Queue) { q.Drop(1) },
		func(q *Queue) { q.Change(1, 1) },
		func(q *Queue) { q.Data() },
		func(q *Queue) { q.Senders() },
		func(q *Queue) { q.Receivers() },
	} {
		q := new(Queue)
		call(q)
		call(q.Twin())
	}
}

// draws are numbers that look drawn by lot, and are the same each time.
type draws uint64

func (d *draws) below(n int) int {
	*d = *d*6364136223846793005 + 1442695040888963407
	return int(uint64(*d>>33) % uint64(n))
}

func TestManyCallsAsTheModel(t *testing.T) {
	for seed := range 96 {
		d := draws(seed)
		b := made(t, seed&1 == 0, []int{0, 1, 2, 3, 5, 64}[seed/2%6])
		favour := 0 // at times more is sent, at times more received, so that the queue is full and empty in turn
		for i := range 400 {
			if i%50 == 0 {
				favour = d.below(5)
			}
			task, pri, data := d.below(18), 1+d.below([]int{2, 5, 17}[seed%3]), d.below(2000)-1000
			switch call := d.below(12); {
			case call < 2+favour:
				b.send(task, pri, data)
			case call < 6:
				b.recv(task, pri)
			case call == 6:
				b.trySend(data)
			case call == 7:
				b.tryRecv()
			case call == 8:
				b.force(data)
			case call == 9:
				b.drop(task)
			case call == 10:
				b.change(task, pri)
			default:
				left := b.twin()
				left.send(task, pri, data)
				b.recv(task, pri)
				left.recv(d.below(18), pri)
				b.state()
			}
		}
	}
}

// P3: the same calls in the same order return the same.
func TestTheSameCallsReturnTheSame(t *testing.T) {
	run := func() []int {
		q, _ := New(true, 3)
		var told []int
		d := draws(5)
		for range 300 {
			if d.below(2) == 0 {
				_, who, code := q.Send(d.below(18), d.below(18), d.below(100))
				told = append(told, who, int(code))
			} else {
				got, code := q.Recv(d.below(18), d.below(18))
				told = append(told, got.Data, got.Task, int(code))
			}
			told = slices.Concat(told, q.Data(), q.Senders(), q.Receivers())
		}
		return told
	}
	if a, b := run(), run(); !slices.Equal(a, b) {
		t.Errorf("P3: %v, and then %v", a, b)
	}
}
