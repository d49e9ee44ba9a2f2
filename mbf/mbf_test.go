package mbf

import (
	"cmp"
	"math"
	"slices"
	"strconv"
	"strings"
	"testing"

	"detent/api"
	"detent/ring"
)

var bothOrders = []bool{false, true}

// outside are neither tasks nor priorities. Many of them differ from one inside by a power of two.
var outside = []int{
	math.MinInt, math.MinInt + 1, -1 << 32, -1<<32 + 1, math.MinInt32, -256, -17, -16, -2, -1, 0,
	17, 18, 32, 33, 256, 257, 1<<16 + 1, math.MaxInt32, 1 << 32, 1<<32 + 1, math.MaxInt - 1, math.MaxInt,
}

// noMosts are below 1 or above 1024.
var noMosts = []int{
	math.MinInt, math.MinInt + 1, -1 << 32, -1<<32 + 1, math.MinInt32, -1025, -1024, -1023, -2, -1, 0,
	1025, 1026, 2048, 1<<16 + 1, math.MaxInt32, 1 << 32, 1<<32 + 1, math.MaxInt - 1, math.MaxInt,
}

// noSizes are below 0, above 65536, or not multiples of four.
var noSizes = []int{
	math.MinInt, math.MinInt + 4, -1 << 32, -1<<32 + 4, math.MinInt32, -65536, -24, -8, -4, -3, -2, -1,
	1, 2, 3, 5, 6, 7, 9, 22, 1023, 65533, 65534, 65535, 65537, 65538, 65540, 1 << 17, 1<<17 + 24, math.MaxInt32, 1 << 32, 1<<32 + 24, math.MaxInt - 3, math.MaxInt,
}

// waiter is a task that waits; msg is what it sends, if it does.
type waiter struct {
	task, pri int
	msg       string
}

// model is the chapter's message buffer in its plainest form: those who wait stand in the order in which they came, and the senders are sorted when they are asked for.
type model struct {
	byPri              bool
	most, size         int
	ring               []string
	senders, receivers []waiter
}

func (m *model) free() int {
	free := m.size
	for _, msg := range m.ring {
		free -= 4 + (len(msg)+3)/4*4
	}
	return free
}

func (m *model) fits(msg string) bool {
	return len(msg) <= 1024 && 4+(len(msg)+3)/4*4 <= m.free()
}

func at(row []waiter, task int) int {
	return slices.IndexFunc(row, func(w waiter) bool { return w.task == task })
}

func leave(row *[]waiter, task int) bool {
	place := at(*row, task)
	if place >= 0 {
		*row = slices.Delete(*row, place, place+1)
	}
	return place >= 0
}

func inside(n int) bool { return n >= 1 && n <= 16 }

func (m *model) sending() []waiter {
	row := slices.Clone(m.senders)
	if m.byPri {
		slices.SortStableFunc(row, func(a, b waiter) int { return cmp.Compare(a.pri, b.pri) })
	}
	return row
}

func (m *model) trySend(msg string) sent {
	switch {
	case msg == "" || len(msg) > m.most:
		return sent{code: api.Par}
	case len(m.receivers) > 0:
		first := m.receivers[0].task
		leave(&m.receivers, first)
		return to(first)
	case len(m.senders) == 0 && m.fits(msg):
		m.ring = append(m.ring, msg)
		return added
	}
	return waits
}

// refusal is the code of a task that is to wait.
func (m *model) refusal(w waiter) api.Code {
	switch {
	case !inside(w.task) || !inside(w.pri):
		return api.Par
	case at(m.senders, w.task) >= 0 || at(m.receivers, w.task) >= 0:
		return api.Obj
	}
	return api.OK
}

func (m *model) send(w waiter) sent {
	if got := m.trySend(w.msg); got != waits {
		return got
	}
	code := m.refusal(w)
	if code == api.OK {
		m.senders = append(m.senders, w)
	}
	return sent{code: code}
}

// released are the senders whose messages go into the ring now.
func (m *model) released() string {
	var row []int
	for _, w := range m.sending() {
		if !m.fits(w.msg) {
			break
		}
		m.ring = append(m.ring, w.msg)
		leave(&m.senders, w.task)
		row = append(row, w.task)
	}
	return told(row)
}

func (m *model) tryRecv() received {
	sending := m.sending()
	switch {
	case len(m.ring) > 0:
		first := m.ring[0]
		m.ring = m.ring[1:]
		return received{msg: first, ok: true, sent: m.released()}
	case len(sending) > 0:
		leave(&m.senders, sending[0].task)
		return got(sending[0].msg, sending[0].task)
	}
	return nothing
}

func (m *model) recv(task, pri int) received {
	if got := m.tryRecv(); got.ok {
		return got
	}
	w := waiter{task: task, pri: pri}
	code := m.refusal(w)
	if code == api.OK {
		m.receivers = append(m.receivers, w)
	}
	return received{code: code}
}

func (m *model) drop(task int) string {
	if leave(&m.senders, task) || leave(&m.receivers, task) {
		return m.released()
	}
	return ""
}

func (m *model) change(task, pri int) changed {
	if !inside(pri) {
		return changed{}
	}
	if place := at(m.senders, task); place >= 0 {
		w := m.senders[place]
		w.pri = pri
		if m.byPri { // behind its new equals
			leave(&m.senders, task)
			m.senders = append(m.senders, w)
		} else {
			m.senders[place] = w
		}
		return changed{m.released(), true}
	}
	return changed{ok: at(m.receivers, task) >= 0}
}

func (m *model) apart() *model {
	c := *m
	c.ring, c.senders, c.receivers = slices.Clone(m.ring), slices.Clone(m.senders), slices.Clone(m.receivers)
	return &c
}

func ids(row []waiter) []int {
	var ids []int
	for _, w := range row {
		ids = append(ids, w.task)
	}
	return ids
}

// told is a row of tasks in a form that can be compared: 2 1 3.
func told(row []int) string {
	var parts []string
	for _, n := range row {
		parts = append(parts, strconv.Itoa(n))
	}
	return strings.Join(parts, " ")
}

// sent is what Send and TrySend return, received what Recv and TryRecv do, changed what Change does; where a call returns no code, it is OK.
type sent struct {
	ok   bool
	task int
	code api.Code
}

type received struct {
	msg  string
	ok   bool
	sent string
	code api.Code
}

type changed struct {
	sent string
	ok   bool
}

var (
	added   = sent{ok: true}
	waits   = sent{}
	nothing = received{}
	done    = changed{ok: true}
)

func to(task int) sent { return sent{ok: true, task: task} }

func got(msg string, tasks ...int) received { return received{msg: msg, ok: true, sent: told(tasks)} }

func freed(tasks ...int) changed { return changed{told(tasks), true} }

// view is all that can be observed of a buffer: what it tells, what later receipts would return, and where one more sender of each priority would stand.
type view struct {
	senders, receivers string
	len, free, size    int
	later, places      string
}

func (b *both) view() view {
	r := b.real
	v := view{senders: told(r.Senders()), receivers: told(r.Receivers()), len: r.Len(), free: r.Free(), size: r.Size()}
	later := r.Apart()
	for left := true; left; {
		got := tried(later.TryRecv())
		v.later += receipt(got)
		left = got.ok
	}
	for _, pri := range b.want.asked() {
		more := r.Apart()
		more.Send(b.want.idle(), pri, []byte("m"))
		v.places += told(more.Senders()) + "/"
	}
	return v
}

func (m *model) view() view {
	v := view{senders: told(ids(m.sending())), receivers: told(ids(m.receivers)), len: len(m.ring), free: m.free(), size: m.size}
	later := m.apart()
	for left := true; left; {
		got := later.tryRecv()
		v.later += receipt(got)
		left = got.ok
	}
	for _, pri := range m.asked() {
		more := m.apart()
		more.send(waiter{m.idle(), pri, "m"})
		v.places += told(ids(more.sending())) + "/"
	}
	return v
}

// asked are the priorities at which one more sender would tell something.
func (m *model) asked() []int {
	if len(m.senders) == 0 || m.idle() == 0 {
		return nil
	}
	return []int{1, 2, 3, 5, 9, 16}
}

// idle is a task that does not wait, 0 if there is none.
func (m *model) idle() int {
	for task := 1; task <= 16; task++ {
		if at(m.senders, task) < 0 && at(m.receivers, task) < 0 {
			return task
		}
	}
	return 0
}

func receipt(r received) string {
	return strconv.Quote(r.msg) + "(" + r.sent + ")"
}

func tried(g Got) received {
	return received{msg: string(g.Msg), ok: g.OK, sent: told(g.Sent)}
}

// both is a buffer beside its model: each call is made on the two, the answers are held against each other, and then all that can be observed.
type both struct {
	t    *testing.T
	real *Buffer
	want *model
}

func made(t *testing.T, byPri bool, most, size int) *both {
	t.Helper()
	x, code := NewBuffer(byPri, most, size)
	if x == nil || x.Ring == nil || code != api.OK {
		t.Fatalf("P1601: NewBuffer(%v, %d, %d) is %v, %v", byPri, most, size, x, code)
	}
	b := &both{t, x, &model{byPri: byPri, most: most, size: size}}
	b.state()
	return b
}

// filled is a buffer to which these were sent while nobody waited, and which had room for them.
func filled(t *testing.T, byPri bool, most, size int, messages ...string) *both {
	t.Helper()
	b := made(t, byPri, most, size)
	for _, msg := range messages {
		is(t, "TrySend of what fits", b.trySend(msg), added)
	}
	return b
}

// wait lets these wait to send.
func (b *both) wait(tasks ...waiter) *both {
	b.t.Helper()
	for _, w := range tasks {
		is(b.t, "Send of what does not fit", b.send(w.task, w.pri, w.msg), waits)
	}
	return b
}

// listen lets these wait to receive.
func (b *both) listen(tasks ...waiter) *both {
	b.t.Helper()
	for _, w := range tasks {
		is(b.t, "Recv of nothing", b.recv(w.task, w.pri), nothing)
	}
	return b
}

// is holds an answer against one that the test itself writes.
func is[T comparable](t *testing.T, what string, got, want T) {
	t.Helper()
	if got != want {
		t.Errorf("P1601: %s is %#v, not %#v", what, got, want)
	}
}

// roomy is a message with capacity behind it, and spoilt writes all over that afterwards; it tells if the buffer had done so itself.
func roomy(msg string) []byte {
	b := make([]byte, len(msg), len(msg)+24)
	copy(b, msg)
	return b
}

func spoilt(t *testing.T, sent []byte, msg string) {
	t.Helper()
	if string(sent) != msg || strings.Trim(string(sent[len(sent):cap(sent)]), "\x00") != "" {
		t.Errorf("P2: the slice that was sent is %q now", sent[:cap(sent)])
	}
	spoil(sent)
}

func spoil[T byte | int](row []T) {
	row = row[:cap(row)]
	for i := range row {
		row[i] = 77
	}
}

func (b *both) send(task, pri int, msg string) sent {
	b.t.Helper()
	slice := roomy(msg)
	ok, who, code := b.real.Send(task, pri, slice)
	spoilt(b.t, slice, msg)
	got := sent{ok, who, code}
	is(b.t, "Send", got, b.want.send(waiter{task, pri, msg}))
	b.state()
	return got
}

func (b *both) trySend(msg string) sent {
	b.t.Helper()
	slice := roomy(msg)
	ok, who, code := b.real.TrySend(slice)
	spoilt(b.t, slice, msg)
	got := sent{ok, who, code}
	is(b.t, "TrySend", got, b.want.trySend(msg))
	b.state()
	return got
}

func (b *both) recv(task, pri int) received {
	b.t.Helper()
	g, code := b.real.Recv(task, pri)
	got := tried(g)
	got.code = code
	spoil(g.Msg)
	spoil(g.Sent)
	is(b.t, "Recv", got, b.want.recv(task, pri))
	b.state()
	return got
}

func (b *both) tryRecv() received {
	b.t.Helper()
	g := b.real.TryRecv()
	got := tried(g)
	spoil(g.Msg)
	spoil(g.Sent)
	is(b.t, "TryRecv", got, b.want.tryRecv())
	b.state()
	return got
}

func (b *both) drop(task int) string {
	b.t.Helper()
	row := b.real.Drop(task)
	got := told(row)
	spoil(row)
	is(b.t, "Drop", got, b.want.drop(task))
	b.state()
	return got
}

func (b *both) change(task, pri int) changed {
	b.t.Helper()
	row, ok := b.real.Change(task, pri)
	got := changed{told(row), ok}
	spoil(row)
	is(b.t, "Change", got, b.want.change(task, pri))
	b.state()
	return got
}

func (b *both) apart() *both {
	b.t.Helper()
	x := b.real.Apart()
	if x == nil || x == b.real || x.Ring == b.real.Ring {
		b.t.Fatalf("P1601: the copy of %p is %p", b.real, x)
	}
	apart := &both{b.t, x, b.want.apart()}
	apart.state()
	b.state()
	return apart
}

func (b *both) state() {
	b.t.Helper()
	if got, want := b.view(), b.want.view(); got != want {
		b.t.Errorf("P1601: the buffer is %#v, not %#v", got, want)
	}
}

// holds is of what the buffer tells.
func (b *both) holds(messages, free int, senders, receivers string) {
	b.t.Helper()
	is(b.t, "Len", b.real.Len(), messages)
	is(b.t, "Free", b.real.Free(), free)
	is(b.t, "Senders", told(b.real.Senders()), senders)
	is(b.t, "Receivers", told(b.real.Receivers()), receivers)
}

// empties receives these, and then there is nothing.
func (b *both) empties(all ...received) {
	b.t.Helper()
	for _, want := range all {
		is(b.t, "TryRecv", b.tryRecv(), want)
	}
	is(b.t, "TryRecv of nothing", b.tryRecv(), nothing)
	b.holds(0, b.real.Size(), "", "")
}

// text is a message of n bytes, of which no two neighbours are equal; with n above 255 it has each byte there is.
func text(first, n int) string {
	b := make([]byte, n)
	for i := range b {
		b[i] = byte(first + 7*i)
	}
	return string(b)
}

// five are senders of one byte each, or receivers, in the order in which they come.
var five = []waiter{{3, 5, "c"}, {1, 2, "a"}, {4, 5, "d"}, {16, 1, "p"}, {2, 2, "b"}}

// fiveInOrder are the five in their order, by byPri.
var fiveInOrder = map[bool][]int{false: {3, 1, 4, 16, 2}, true: {16, 1, 2, 3, 4}}

// whose is what the one of the five sends.
func whose(task int) string { return five[at(five, task)].msg }

// full is a buffer of 24 bytes with a message of 20 bytes in it, so that no other fits.
func full(t *testing.T, byPri bool) *both {
	t.Helper()
	return filled(t, byPri, 20, 24, text('A', 20))
}

func TestTheLimits(t *testing.T) {
	if api.MaxTasks != 16 || api.MaxPri != 16 || api.MaxMsg != 1024 || api.MaxArena != 65536 {
		t.Fatal("the tests speak of 16 tasks, 16 priorities, messages of 1024 bytes, and rings of 65536")
	}
}

func TestTheChaptersExample(t *testing.T) {
	b := filled(t, true, 12, 24, "twelve bytes")
	b.wait(waiter{1, 5, "five!"}, waiter{2, 3, "x"}, waiter{3, 5, "y"})
	b.holds(1, 8, "2 1 3", "")
	is(t, "Recv", b.recv(9, 1), got("twelve bytes", 2, 1))
	b.holds(2, 4, "3", "")
	b.empties(got("x", 3), got("five!"), got("y"))
}

func TestNewBuffer(t *testing.T) {
	for _, byPri := range bothOrders {
		for _, most := range []int{1, 2, 3, 4, 5, 12, 1023, 1024} {
			for _, size := range []int{0, 4, 8, 24, 1024, 1028, 65532, 65536} {
				b := made(t, byPri, most, size)
				b.holds(0, size, "", "")
				is(t, "Size", b.real.Size(), size)
				is(t, "TrySend of a byte too many", b.trySend(text(1, most+1)), sent{code: api.Par})
				want := waits
				if 4+(most+3)/4*4 <= size {
					want = added
				}
				is(t, "TrySend of most bytes", b.trySend(text(1, most)), want)
			}
		}
	}
}

func TestNewBufferRefuses(t *testing.T) {
	refused := func(most, size int) {
		t.Helper()
		for _, byPri := range bothOrders {
			if b, code := NewBuffer(byPri, most, size); b != nil || code != api.Par {
				t.Errorf("P1601: NewBuffer(%v, %d, %d) is %v, %v", byPri, most, size, b, code)
			}
		}
	}
	for _, most := range noMosts {
		for _, size := range append([]int{0, 4, 24, 65536}, noSizes...) {
			refused(most, size)
		}
	}
	for _, size := range noSizes {
		if _, code := ring.New(size); code != api.Par {
			t.Errorf("ring.New(%d) is %v", size, code)
		}
		for _, most := range []int{1, 12, 1024} {
			refused(most, size)
		}
	}
}

// Two buffers that were made alike have nothing in common.
func TestBuffersAreTheirOwn(t *testing.T) {
	a, b := made(t, true, 12, 24), made(t, true, 12, 24)
	a.trySend("twelve bytes")
	b.state()
	b.trySend("b")
	a.wait(waiter{1, 5, "five!"})
	b.tryRecv()
	b.listen(waiter{task: 1, pri: 1})
	a.state()
}

// What occupies exactly what is free fits, one byte more does not; in a ring that is empty, and in one that is not.
func TestWhatFitsAndWhatDoesNot(t *testing.T) {
	for _, c := range []struct {
		size      int
		before    []string
		fits, not int
	}{
		{8, nil, 1, 5},
		{8, nil, 4, 5},
		{24, nil, 20, 21},
		{24, nil, 17, 21},
		{24, []string{"12345"}, 8, 9},
		{24, []string{"12345", "abcd"}, -1, 1},
		{24, []string{"12345", "6"}, -1, 1},
		{28, []string{"12345", "6"}, 4, 5},
		{12, []string{"1"}, -1, 1},
		{4, nil, -1, 1},
		{0, nil, -1, 1},
		{1028, nil, 1024, -1},
		{1024, nil, 1020, 1021},
		{65536, nil, 1024, -1},
	} {
		for _, byPri := range bothOrders {
			if c.not > 0 {
				b := filled(t, byPri, 1024, c.size, c.before...)
				is(t, "TrySend of what just does not fit", b.trySend(text(3, c.not)), waits)
				b.wait(waiter{7, 7, text(3, c.not)})
				b.holds(len(c.before), b.want.free(), "7", "")
			}
			if c.fits > 0 {
				b := filled(t, byPri, 1024, c.size, c.before...)
				is(t, "Send of what just fits", b.send(7, 7, text(3, c.fits)), added)
				b.holds(len(c.before)+1, b.want.free(), "", "")
				b = filled(t, byPri, 1024, c.size, c.before...)
				is(t, "TrySend of what just fits", b.trySend(text(3, c.fits)), added)
			}
		}
	}
	full(t, true).holds(1, 0, "", "")
}

// Messages of every length from 1 to most come as they were sent: through the ring, from hand to hand, and to one who waits.
func TestMessagesOfEveryLength(t *testing.T) {
	through, hands := made(t, false, 1024, 2060), made(t, false, 1024, 0)
	for n := 1; n <= 1024; n++ {
		if n > 40 && n < 1000 && n%37 != 0 {
			continue
		}
		msg := text(n, n)
		is(t, "Send of what fits", through.send(1, 1, msg), added)
		is(t, "TryRecv", through.tryRecv(), got(msg))
		hands.wait(waiter{1, 1, msg})
		is(t, "TryRecv", hands.tryRecv(), got(msg, 1))
		hands.listen(waiter{task: 2, pri: 1})
		is(t, "Send to one who waits", hands.send(1, 1, msg), to(2))
	}
}

func TestMessagesThatMayNotBeSent(t *testing.T) {
	for _, most := range []int{1, 4, 12, 1024} {
		for _, byPri := range bothOrders {
			for _, b := range []*both{
				made(t, byPri, most, 2060),
				filled(t, byPri, most, 2060, "x"),
				made(t, byPri, most, 0),
				made(t, byPri, most, 0).wait(five...),
				made(t, byPri, most, 24).listen(five...),
				made(t, byPri, most, 0).listen(five...),
			} {
				before := b.view()
				for _, n := range []int{0, most + 1, most + 2, most + 256, most + 1024, 2 * most, 1025, 4096, 65536, 65536 + 1} {
					if n > 0 && n <= most {
						continue
					}
					for _, w := range []waiter{{9, 5, ""}, {3, 5, ""}, {16, 1, ""}, {0, 0, ""}, {17, 17, ""}} { // also where the task or the priority could not wait, or waits already
						is(t, "Send of what may not be sent", b.send(w.task, w.pri, text(1, n)), sent{code: api.Par})
					}
					is(t, "TrySend of what may not be sent", b.trySend(text(1, n)), sent{code: api.Par})
				}
				for _, none := range [][]byte{nil, {}, make([]byte, 0, 9)} {
					ok, who, code := b.real.Send(9, 5, none)
					is(t, "Send of nothing", sent{ok, who, code}, sent{code: api.Par})
					ok, who, code = b.real.TrySend(none)
					is(t, "TrySend of nothing", sent{ok, who, code}, sent{code: api.Par})
				}
				is(t, "the buffer after that", b.view(), before)
			}
		}
	}
}

func TestSendToOneWhoWaits(t *testing.T) {
	for _, byPri := range bothOrders {
		for _, size := range []int{0, 4, 24} {
			b := made(t, byPri, 1024, size).listen(five...)
			b.holds(0, size, "", "3 1 4 16 2")
			is(t, "Send to one who waits", b.send(9, 1, "x"), to(3))
			b.holds(0, size, "", "1 4 16 2")
			is(t, "TrySend to one who waits", b.trySend(text(5, 1024)), to(1)) // it need not fit anywhere
			b.holds(0, size, "", "4 16 2")
			is(t, "Send of one who waits to receive", b.send(16, 1, "y"), to(4)) // it need not wait itself
			b.holds(0, size, "", "16 2")
			for _, bad := range outside {
				one := b.apart()
				is(t, "Send to one who waits", one.send(bad, bad, "z"), to(16))
				one.holds(0, size, "", "2")
			}
			is(t, "Send to one who waits", b.send(16, 1, "z"), to(16))
			is(t, "TrySend to one who waits", b.trySend("z"), to(2))
			b.holds(0, size, "", "")
			is(t, "TrySend while nobody waits", b.trySend("w").ok, size == 24)
		}
	}
}

// While one waits to send, nobody's message goes into the ring before its own, even if it would fit.
func TestSendWhileOneWaitsToSend(t *testing.T) {
	for _, byPri := range bothOrders {
		b := filled(t, byPri, 20, 24, "12345").wait(waiter{1, 5, "nine byte"})
		is(t, "Fits", b.real.Fits(8), true)
		is(t, "TrySend while one waits to send", b.trySend("x"), waits)
		b.wait(waiter{2, 5, "x"}, waiter{3, 1, "y"})
		row := map[bool]string{false: "1 2 3", true: "3 1 2"}[byPri]
		b.holds(1, 12, row, "")
		is(t, "TrySend while several wait to send", b.trySend("z"), waits)
	}
}

func TestSendWhileNobodyWaits(t *testing.T) {
	for _, byPri := range bothOrders {
		b := made(t, byPri, 20, 24)
		is(t, "Send of what fits", b.send(1, 5, "12345"), added)
		is(t, "TrySend of what fits", b.trySend("6"), added)
		b.holds(2, 4, "", "")
		is(t, "TrySend of what does not fit", b.trySend("7"), waits)
		b.holds(2, 4, "", "")
		is(t, "Send of what does not fit", b.send(1, 5, "7"), waits)
		b.holds(2, 4, "1", "")
		b = made(t, byPri, 20, 24)
		for _, bad := range outside { // who need not wait is asked for nothing
			is(t, "Send of what fits", b.send(bad, bad, "x"), added)
			is(t, "TryRecv", b.tryRecv(), got("x"))
		}
	}
}

func TestTheSendersOrder(t *testing.T) {
	for _, byPri := range bothOrders {
		b := full(t, byPri).wait(five...)
		row := fiveInOrder[byPri]
		b.holds(1, 0, told(row), "")
		want := []received{got(text('A', 20), row[:3]...), got(whose(row[0]), row[3]), got(whose(row[1]), row[4])}
		for _, task := range row[2:] {
			want = append(want, got(whose(task)))
		}
		b.empties(want...)
	}
}

// The order of the receivers is that in which they came, whatever their priorities and byPri are.
func TestTheReceiversOrder(t *testing.T) {
	for _, byPri := range bothOrders {
		for _, size := range []int{0, 24} {
			b := made(t, byPri, 20, size).listen(five...)
			b.holds(0, size, "", "3 1 4 16 2")
			for _, w := range five {
				is(t, "TrySend to one who waits", b.trySend("x"), to(w.task))
			}
			b.holds(0, size, "", "")
		}
	}
}

func TestAllTasksAndPriorities(t *testing.T) {
	for _, byPri := range bothOrders {
		sending, receiving := full(t, byPri), made(t, byPri, 20, 24)
		want := make([]int, 16)
		for task := 1; task <= 16; task++ {
			sending.wait(waiter{task, 17 - task, string(rune('a' + task))})
			receiving.listen(waiter{task: task, pri: 17 - task})
			want[task-1] = task
		}
		receiving.holds(0, 24, "", told(want))
		if byPri {
			slices.Reverse(want)
		}
		sending.holds(1, 0, told(want), "")
	}
}

// After a receipt the senders go as far as the first whose message does not fit, and none behind it does.
func TestRecvLetsSendersGo(t *testing.T) {
	for _, c := range []struct {
		name    string
		ring    []string
		senders []waiter
		want    []received
	}{
		{"one message, no sender", []string{"a"}, nil, []received{got("a")}},
		{"several messages, no sender", []string{"a", "bcd", "e"}, nil, []received{got("a"), got("bcd"), got("e")}},
		{"no sender's message fits", []string{"a", "12345678"}, []waiter{{1, 5, "nine byte"}},
			[]received{got("a"), got("12345678", 1), got("nine byte")}},
		{"no sender's message fits, the second one's would", []string{"a", "12345678"}, []waiter{{1, 5, "nine byte"}, {2, 5, "x"}},
			[]received{got("a"), got("12345678", 1, 2), got("nine byte"), got("x")}},
		{"the first one's fits", []string{"twelve bytes", "a"}, []waiter{{1, 5, "nine byte"}, {2, 5, "x"}},
			[]received{got("twelve bytes", 1), got("a", 2), got("nine byte"), got("x")}},
		{"several fit, and all go", []string{text('A', 20)}, []waiter{{1, 5, "x"}, {2, 5, "y"}, {3, 5, "z"}},
			[]received{got(text('A', 20), 1, 2, 3), got("x"), got("y"), got("z")}},
		{"several fit, a later one would, too", []string{text('A', 20)}, []waiter{{1, 5, "x"}, {2, 5, "y"}, {3, 5, "12345"}, {4, 5, "z"}},
			[]received{got(text('A', 20), 1, 2), got("x", 3), got("y", 4), got("12345"), got("z")}},
		{"what just fits", []string{text('A', 20)}, []waiter{{1, 5, "x"}, {2, 5, "twelve bytes"}, {3, 5, "y"}},
			[]received{got(text('A', 20), 1, 2), got("x", 3), got("twelve bytes"), got("y")}},
		{"what just does not fit", []string{text('A', 20)}, []waiter{{1, 5, "x"}, {2, 5, "thirteen byte"}, {3, 5, "y"}},
			[]received{got(text('A', 20), 1), got("x", 2), got("thirteen byte", 3), got("y")}},
	} {
		for _, byPri := range bothOrders {
			b := filled(t, byPri, 20, 24, c.ring...).wait(c.senders...)
			polled := b.apart()
			for i, want := range c.want {
				is(t, c.name+", Recv "+strconv.Itoa(i), b.recv(9, 1), want)
			}
			is(t, c.name+", Recv of nothing", b.recv(9, 1), nothing)
			b.holds(0, 24, "", "9")
			polled.empties(c.want...)
		}
	}
}

// Where several fit by priority, they come in the order of their priorities, those of one in that of their coming.
func TestRecvLetsSendersGoByPriority(t *testing.T) {
	b := full(t, true).wait(waiter{1, 9, "one"}, waiter{2, 3, "two"}, waiter{3, 3, "three"}, waiter{4, 1, "four"})
	is(t, "Recv", b.recv(9, 1), got(text('A', 20), 4, 2))
	b.holds(2, 8, "3 1", "")
	is(t, "TryRecv", b.tryRecv(), got("four", 3))
	is(t, "TryRecv", b.tryRecv(), got("two", 1))
	b.empties(got("three"), got("one"))
}

// tooLong are senders of messages that do not fit into a ring of 8 bytes at all.
var tooLong = []waiter{{1, 5, "first"}, {2, 3, "second"}, {3, 5, "third one"}}

func TestRecvFromHandToHand(t *testing.T) {
	for _, byPri := range bothOrders {
		row := map[bool][]int{false: {1, 2, 3}, true: {2, 1, 3}}[byPri]
		for n := 1; n <= 3; n++ {
			b := made(t, byPri, 20, 8).wait(tooLong[:n]...)
			polled := b.apart()
			for _, task := range row {
				if task <= n {
					is(t, "Recv of what does not fit", b.recv(9, 1), got(tooLong[task-1].msg, task))
				}
			}
			b.holds(0, 8, "", "")
			is(t, "Recv of nothing", b.recv(9, 1), nothing)
			is(t, "TryRecv of what does not fit", polled.tryRecv(), got(tooLong[min(row[0], n)-1].msg, min(row[0], n)))
		}
	}
}

// Where a message goes from hand to hand, only its sender goes, also if the next one's message fits into the ring; this one is first then.
func TestOnlyTheFirstGoesFromHandToHand(t *testing.T) {
	for _, byPri := range bothOrders {
		b := made(t, byPri, 20, 8).wait(waiter{1, 5, "first"}, waiter{2, 5, "x"}, waiter{3, 5, "y"}, waiter{4, 5, "fourth"})
		is(t, "TryRecv", b.tryRecv(), got("first", 1))
		b.holds(0, 8, "2 3 4", "")
		is(t, "TrySend while one waits to send", b.trySend("z"), waits)
		is(t, "Recv", b.recv(9, 1), got("x", 2))
		b.holds(0, 8, "3 4", "")
		b.empties(got("y", 3), got("fourth", 4))
	}
}

func TestRecvWhereNobodySends(t *testing.T) {
	for _, byPri := range bothOrders {
		for _, size := range []int{0, 24} {
			b := made(t, byPri, 20, size)
			is(t, "TryRecv of nothing", b.tryRecv(), nothing)
			b.holds(0, size, "", "")
			is(t, "Recv of nothing", b.recv(7, 5), nothing)
			b.holds(0, size, "", "7")
			is(t, "Recv of nothing", b.recv(8, 1), nothing)
			is(t, "TryRecv while tasks wait to receive", b.tryRecv(), nothing)
			b.holds(0, size, "", "7 8")
		}
	}
}

// Who need not wait to receive is asked for nothing.
func TestRecvOfWhoeverThereIs(t *testing.T) {
	for _, bad := range outside {
		b := filled(t, true, 20, 24, text('A', 20)).wait(waiter{1, 5, "x"})
		is(t, "Recv", b.recv(bad, bad), got(text('A', 20), 1))
		is(t, "Recv", b.recv(bad, bad), got("x"))
		b = made(t, true, 20, 0).wait(waiter{1, 5, "x"}, waiter{2, 5, "y"})
		is(t, "Recv", b.recv(bad, bad), got("x", 1))
		is(t, "Recv of one who waits to send", b.recv(2, 5), got("y", 2))
	}
	b := full(t, true).wait(five...)
	is(t, "Recv of one who waits to send", b.recv(3, 5), got(text('A', 20), 16, 1, 2))
	b.holds(3, 0, "3 4", "")
}

// In a buffer of size 0, messages go from hand to hand, whoever comes first.
func TestSizeZero(t *testing.T) {
	for _, byPri := range bothOrders {
		b := made(t, byPri, 12, 0)
		is(t, "TrySend", b.trySend("x"), waits)
		is(t, "Send", b.send(1, 5, "twelve bytes"), waits)
		is(t, "Send", b.send(2, 3, "y"), waits)
		b.holds(0, 0, map[bool]string{false: "1 2", true: "2 1"}[byPri], "")
		want := map[bool][]received{false: {got("twelve bytes", 1), got("y", 2)}, true: {got("y", 2), got("twelve bytes", 1)}}[byPri]
		is(t, "Recv", b.recv(3, 1), want[0])
		is(t, "TryRecv", b.tryRecv(), want[1])
		is(t, "TryRecv", b.tryRecv(), nothing)
		is(t, "Recv", b.recv(3, 1), nothing)
		is(t, "Recv", b.recv(4, 1), nothing)
		b.holds(0, 0, "", "3 4")
		is(t, "Send", b.send(1, 5, "z"), to(3))
		is(t, "TrySend", b.trySend("w"), to(4))
		is(t, "TrySend", b.trySend("w"), waits)
		b.holds(0, 0, "", "")
	}
}

// What one who waits has sent stays what it was, whoever else comes with what.
func TestEachSenderHasItsOwnMessage(t *testing.T) {
	b := full(t, false)
	for task := 16; task >= 1; task-- {
		b.wait(waiter{task, 1 + task%3, text(task, task)})
	}
	for task := 16; task >= 1; task-- {
		is(t, "Send of one who waits to send", b.send(task, 1, "other"), sent{code: api.Obj})
	}
	var come []string
	for got := b.tryRecv(); got.ok; got = b.tryRecv() {
		come = append(come, got.msg)
	}
	is(t, "the number of messages", len(come), 17)
	for i, msg := range come[1:] {
		is(t, "a message", msg, text(16-i, 16-i))
	}
}

func TestDropOfASender(t *testing.T) {
	for _, byPri := range bothOrders {
		for i, gone := range fiveInOrder[byPri] {
			b := full(t, byPri).wait(five...)
			is(t, "Drop of a sender", b.drop(gone), "")
			rest := slices.Delete(slices.Clone(fiveInOrder[byPri]), i, i+1)
			b.holds(1, 0, told(rest), "")
			is(t, "Drop of one who does not wait any more", b.drop(gone), "")
			b.empties(got(text('A', 20), rest[:3]...), got(whose(rest[0]), rest[3]), got(whose(rest[1])), got(whose(rest[2])), got(whose(rest[3]))) // what the dropped one would have sent does not come
		}
	}
}

// Where the one that waits first leaves, the others' messages go into the ring as far as they fit.
func TestDropOfTheFirstSender(t *testing.T) {
	for _, byPri := range bothOrders {
		start := filled(t, byPri, 20, 24, "1").wait(waiter{1, 5, text('B', 13)}, waiter{2, 5, "x"}, waiter{3, 5, "y"}, waiter{4, 5, "z"})
		start.holds(1, 16, "1 2 3 4", "")
		b := start.apart()
		is(t, "Drop of the first", b.drop(1), "2 3")
		b.holds(3, 0, "4", "")
		b.empties(got("1", 4), got("x"), got("y"), got("z"))
		b = start.apart()
		is(t, "Drop of one between", b.drop(3), "")
		b.holds(1, 16, "1 2 4", "")
		is(t, "Drop of the first", b.drop(1), "2 4")
		b.empties(got("1"), got("x"), got("z"))
		b = start.apart()
		is(t, "Drop of the last", b.drop(4), "")
		is(t, "Drop of the second", b.drop(2), "")
		is(t, "Drop of the first", b.drop(1), "3")
		b.empties(got("1"), got("y"))
		b = filled(t, byPri, 20, 24, "1").wait(waiter{1, 5, text('B', 20)}, waiter{2, 5, text('C', 13)}, waiter{3, 5, "x"})
		is(t, "Drop of the first, where the next one's does not fit", b.drop(1), "")
		b.holds(1, 16, "2 3", "")
		is(t, "Drop of the first", b.drop(2), "3")
		b = filled(t, byPri, 20, 24, "1").wait(waiter{1, 5, text('B', 20)}, waiter{2, 5, text('C', 12)}, waiter{3, 5, "x"})
		is(t, "Drop of the first, where the next one's just fits", b.drop(1), "2")
		b.holds(2, 0, "3", "")
		b = filled(t, byPri, 20, 24, "1").wait(waiter{1, 5, text('B', 20)})
		is(t, "Drop of the only one", b.drop(1), "")
		b.empties(got("1"))
	}
}

// The ring is empty here, and still the first one waits; so it goes when another one leaves.
func TestDropAfterAMessageWentFromHandToHand(t *testing.T) {
	start := made(t, false, 20, 8).wait(waiter{1, 5, "first"}, waiter{2, 5, "second"}, waiter{3, 5, "x"}, waiter{4, 5, "y"})
	b := start.apart()
	is(t, "Drop of the first", b.drop(1), "")
	is(t, "Drop of the first", b.drop(2), "3")
	b.holds(1, 0, "4", "")
	b.empties(got("x", 4), got("y"))
	b = start.apart()
	b.tryRecv()
	b.tryRecv()
	b.holds(0, 8, "3 4", "")
	is(t, "Drop of the first", b.apart().drop(3), "4")
	is(t, "Drop of the second", b.drop(4), "3")
	b.empties(got("x"))
}

func TestDropOfAReceiver(t *testing.T) {
	for _, byPri := range bothOrders {
		for _, size := range []int{0, 24} {
			for i, gone := range fiveInOrder[false] {
				b := made(t, byPri, 20, size).listen(five...)
				is(t, "Drop of a receiver", b.drop(gone), "")
				rest := slices.Delete(slices.Clone(fiveInOrder[false]), i, i+1)
				b.holds(0, size, "", told(rest))
				is(t, "Drop of one who does not wait any more", b.drop(gone), "")
				for _, task := range rest { // the dropped one gets nothing
					is(t, "TrySend to one who waits", b.trySend("x"), to(task))
				}
				b.holds(0, size, "", "")
			}
		}
	}
}

func TestDropOfOneWhoDoesNotWait(t *testing.T) {
	for _, byPri := range bothOrders {
		for _, b := range []*both{made(t, byPri, 20, 24), full(t, byPri), full(t, byPri).wait(five...), made(t, byPri, 20, 0).wait(five...), made(t, byPri, 20, 24).listen(five...)} {
			before := b.view()
			for _, task := range append([]int{5, 9, 15}, outside...) {
				is(t, "Drop of one who does not wait", b.drop(task), "")
			}
			is(t, "the buffer after that", b.view(), before)
		}
		b := made(t, byPri, 20, 8).wait(waiter{1, 5, "first"}, waiter{2, 5, "x"})
		b.tryRecv()
		is(t, "Drop of one who was released", b.drop(1), "") // and 2 goes on waiting, though its message fits
		b.holds(0, 8, "2", "")
		b.drop(2)
		b.listen(waiter{task: 3, pri: 1})
		b.trySend("z")
		is(t, "Drop of one who was released", b.drop(3), "")
	}
}

// Whoever does not wait any more may wait again, with another message or for the other thing, and comes as if for the first time.
func TestWaitingAgain(t *testing.T) {
	for _, byPri := range bothOrders {
		b := full(t, byPri).wait(waiter{1, 5, "long before"}, waiter{2, 5, "two"})
		b.drop(1)
		b.wait(waiter{1, 5, "new"})
		b.holds(1, 0, "2 1", "")
		is(t, "TryRecv", b.tryRecv(), got(text('A', 20), 2, 1))
		b.trySend("w")
		b.wait(waiter{2, 5, "here again"})
		b.empties(got("two"), got("new", 2), got("w"), got("here again"))
		b.listen(waiter{task: 1, pri: 5}, waiter{task: 2, pri: 5})
		b.drop(1)
		b.listen(waiter{task: 1, pri: 5})
		b.holds(0, 24, "", "2 1")
		b.trySend("x")
		b.drop(1)
		b.trySend(text('A', 20))
		is(t, "Send of one who waited to receive", b.send(1, 5, "y"), waits)
		b.drop(1)
		b.tryRecv()
		is(t, "Recv of one who waited to send", b.recv(1, 5), nothing)
		is(t, "TrySend to one who waits", b.trySend("z"), to(1))
		b.holds(0, 24, "", "")
	}
}

func TestChangeOfASender(t *testing.T) {
	for _, c := range []struct {
		task, pri int
		row       []int // with byPri, where the five are 16, 1, 2, 3, 4
	}{
		{4, 1, []int{16, 4, 1, 2, 3}},
		{16, 16, []int{1, 2, 3, 4, 16}},
		{16, 2, []int{1, 2, 16, 3, 4}},
		{1, 2, []int{16, 2, 1, 3, 4}}, // the same: behind its equals
		{2, 2, []int{16, 1, 2, 3, 4}},
		{3, 3, []int{16, 1, 2, 3, 4}},
		{1, 5, []int{16, 2, 3, 4, 1}},
	} {
		b := full(t, true).wait(five...)
		is(t, "Change of a sender", b.change(c.task, c.pri), done)
		b.holds(1, 0, told(c.row), "")
		row := c.row // each sends what it sent before
		b.empties(got(text('A', 20), row[:3]...), got(whose(row[0]), row[3]), got(whose(row[1]), row[4]), got(whose(row[2])), got(whose(row[3])), got(whose(row[4])))
		plain := full(t, false).wait(five...)
		is(t, "Change of a sender", plain.change(c.task, c.pri), done)
		plain.holds(1, 0, "3 1 4 16 2", "")
	}
}

// Where another one is first after a Change, its message goes into the ring, if it fits, and those behind it as far as theirs do.
func TestChangeLetsSendersGo(t *testing.T) {
	long := waiter{1, 5, text('B', 13)}
	start := filled(t, true, 20, 24, "1").wait(long, waiter{2, 7, "x"}, waiter{3, 7, "y"}, waiter{4, 9, "z"})
	start.holds(1, 16, "1 2 3 4", "")
	for _, c := range []struct {
		task, pri int
		want      changed
		senders   string
	}{
		{1, 1, done, "1 2 3 4"},
		{1, 5, done, "1 2 3 4"},
		{1, 6, done, "1 2 3 4"},
		{1, 7, freed(2, 3), "1 4"}, // down: the others come first
		{1, 8, freed(2, 3), "1 4"},
		{1, 16, freed(2, 3), "4 1"},
		{2, 5, done, "1 2 3 4"},   // behind its equals
		{2, 4, freed(2), "1 3 4"}, // up: it comes first
		{3, 4, freed(3), "1 2 4"},
		{4, 1, freed(4), "1 2 3"},
		{3, 6, done, "1 3 2 4"},
		{4, 16, done, "1 2 3 4"},
	} {
		b := start.apart()
		is(t, "Change of a sender", b.change(c.task, c.pri), c.want)
		is(t, "Senders", told(b.real.Senders()), c.senders)
	}
	b := start.apart()
	b.change(1, 16)
	b.empties(got("1", 4), got("x"), got("y"), got("z", 1), got(long.msg))
	b = filled(t, true, 20, 24, "1").wait(long, waiter{2, 7, text('C', 14)}, waiter{3, 8, "x"})
	is(t, "Change, where the next one's does not fit either", b.change(1, 16), done)
	b.holds(1, 16, "2 3 1", "")
	is(t, "Change", b.change(2, 10), freed(3))
	b.holds(2, 8, "2 1", "")
	plain := filled(t, false, 20, 24, "1").wait(long, waiter{2, 7, "x"})
	is(t, "Change without byPri", plain.change(1, 16), done)
	is(t, "Change without byPri", plain.change(2, 1), done)
	plain.holds(1, 16, "1 2", "")
}

// The ring is empty here, and still the first one waits; so it goes at a Change.
func TestChangeAfterAMessageWentFromHandToHand(t *testing.T) {
	for _, byPri := range bothOrders {
		start := made(t, byPri, 20, 8).wait(waiter{1, 5, "first"}, waiter{2, 5, "x"}, waiter{3, 5, "y"})
		start.tryRecv()
		start.holds(0, 8, "2 3", "")
		for _, c := range [][2]int{{0, 5}, {2, 0}, {2, 17}, {1, 5}, {4, 5}} {
			is(t, "Change that is refused", start.change(c[0], c[1]), changed{})
		}
		start.holds(0, 8, "2 3", "")
		b := start.apart()
		is(t, "Change of the first", b.change(2, 4), freed(2))
		b.holds(1, 0, "3", "")
		b = start.apart()
		is(t, "Change of the second", b.change(3, 4), map[bool]changed{false: freed(2), true: freed(3)}[byPri])
	}
}

func TestChangeOfAReceiver(t *testing.T) {
	for _, byPri := range bothOrders {
		for _, size := range []int{0, 24} {
			b := made(t, byPri, 20, size).listen(five...)
			for _, w := range five {
				for pri := 1; pri <= 16; pri++ {
					is(t, "Change of a receiver", b.change(w.task, pri), done)
				}
			}
			b.holds(0, size, "", "3 1 4 16 2")
		}
	}
}

func TestChangeRefuses(t *testing.T) {
	for _, byPri := range bothOrders {
		for _, b := range []*both{made(t, byPri, 20, 24), full(t, byPri), full(t, byPri).wait(five...), made(t, byPri, 20, 0).wait(five...), made(t, byPri, 20, 24).listen(five...)} {
			before := b.view()
			for _, task := range append([]int{5, 9, 15}, outside...) {
				for _, pri := range []int{0, 1, 5, 16, 17} {
					is(t, "Change of one who does not wait", b.change(task, pri), changed{})
				}
			}
			for _, w := range five {
				for _, pri := range outside {
					is(t, "Change to no priority", b.change(w.task, pri), changed{})
				}
			}
			is(t, "the buffer after that", b.view(), before)
		}
		b := full(t, byPri).wait(waiter{1, 5, "x"})
		b.drop(1)
		is(t, "Change of one who was dropped", b.change(1, 1), changed{})
	}
}

func TestTasksAndPrioritiesThatMayNotWait(t *testing.T) {
	for _, byPri := range bothOrders {
		sending, receiving := full(t, byPri).wait(five...), made(t, byPri, 20, 24).listen(five...)
		full, empty, none := full(t, byPri), made(t, byPri, 20, 24), made(t, byPri, 20, 0)
		all := []*both{sending, receiving, full, empty, none}
		var before []view
		for _, b := range all {
			before = append(before, b.view())
		}
		for _, bad := range outside {
			for _, other := range append([]int{1, 3, 9, 16}, outside...) { // also for a task that waits: Par comes before Obj
				for _, w := range []waiter{{bad, other, "x"}, {other, bad, "x"}} {
					for _, b := range []*both{sending, full, none} {
						ok, who, code := b.real.Send(w.task, w.pri, []byte(w.msg))
						is(t, "Send", sent{ok, who, code}, sent{code: api.Par})
					}
					for _, b := range []*both{receiving, empty, none} {
						g, code := b.real.Recv(w.task, w.pri)
						refused := tried(g)
						refused.code = code
						is(t, "Recv", refused, received{code: api.Par})
					}
				}
			}
			for i, b := range all {
				is(t, "the buffer after that", b.view(), before[i])
			}
		}
	}
}

func TestOneWhoWaitsAlready(t *testing.T) {
	for _, byPri := range bothOrders {
		for _, sending := range []*both{full(t, byPri).wait(five...), made(t, byPri, 20, 0).wait(five...), filled(t, byPri, 20, 24, "12345").wait(waiter{9, 1, "nine byte"}).wait(five...)} {
			before := sending.view()
			for _, w := range five {
				for pri := 1; pri <= 16; pri++ {
					is(t, "Send of one who waits to send", sending.send(w.task, pri, "other"), sent{code: api.Obj})
				}
			}
			is(t, "the buffer after that", sending.view(), before)
		}
		for _, size := range []int{0, 24} {
			receiving := made(t, byPri, 20, size).listen(five...)
			for _, w := range five {
				for pri := 1; pri <= 16; pri++ {
					is(t, "Recv of one who waits to receive", receiving.recv(w.task, pri), received{code: api.Obj})
				}
			}
			receiving.holds(0, size, "", "3 1 4 16 2")
		}
	}
}

// A task never waits both to send and to receive: its Send finds one who waits to receive, be it itself, and its Recv one who waits to send.
func TestOneWhoWaitsForTheOtherThing(t *testing.T) {
	for _, byPri := range bothOrders {
		for _, size := range []int{0, 4, 24} {
			b := made(t, byPri, 20, size).listen(waiter{task: 1, pri: 5}, waiter{task: 2, pri: 5})
			is(t, "Send of the first one who waits to receive", b.send(1, 5, "x"), to(1))
			is(t, "Send of one who waits to receive", b.send(2, 5, "x"), to(2))
			b.holds(0, size, "", "")
			b = made(t, byPri, 20, 4).wait(waiter{1, 5, "x"}, waiter{2, 5, "y"})
			is(t, "Recv of one who waits to send", b.recv(2, 5), got("x", 1))
			is(t, "Recv of the first one who waits to send", b.recv(2, 5), got("y", 2))
			b.holds(0, 4, "", "")
		}
	}
}

// Rows that are handed out are the caller's own, whatever their length is.
func TestRowsAreTheCallersOwn(t *testing.T) {
	for n := range len(five) + 1 {
		for _, b := range []*both{full(t, true).wait(five[:n]...), made(t, true, 20, 24).listen(five[:n]...)} {
			for _, rows := range []func() []int{b.real.Senders, b.real.Receivers} {
				spoil(rows())
				b.state()
			}
			senders, receivers := b.real.Senders(), b.real.Receivers()
			before := told(senders) + "/" + told(receivers)
			b.tryRecv()
			b.drop(3)
			b.change(1, 16)
			b.trySend("x")
			is(t, "rows that were handed out", told(senders)+"/"+told(receivers), before)
		}
	}
}

// What was received stays what it was, also if the buffer goes on, and so do the rows of those who were released.
func TestWhatWasReceivedIsTheCallersOwn(t *testing.T) {
	for _, size := range []int{0, 24} {
		b := made(t, false, 20, size)
		for _, w := range five {
			b.send(w.task, w.pri, w.msg+w.msg)
		}
		var gots []Got
		apart := b.real.Apart()
		for _, x := range []*Buffer{b.real, apart} {
			for g := x.TryRecv(); g.OK; g = x.TryRecv() {
				gots = append(gots, g)
			}
			x.TrySend([]byte("over"))
			x.TrySend([]byte("all of it"))
		}
		is(t, "the number of messages", len(gots), 10)
		for i, g := range gots {
			is(t, "a message", string(g.Msg), five[i%5].msg+five[i%5].msg)
			spoil(g.Msg)
			sent := told(g.Sent)
			is(t, "the row beside it", sent == "" || len(g.Sent) > 0, true)
			spoil(g.Sent)
		}
	}
}

// A message that a copy of the buffer hands out has no memory in common with the buffer's own.
func TestMessagesOfACopyAreItsOwn(t *testing.T) {
	for _, size := range []int{0, 24} {
		b := made(t, false, 20, size)
		b.real.Send(1, 1, []byte("in the ring, or not"))
		b.real.Send(2, 1, []byte("waits"))
		apart := b.real.Apart()
		for range 2 {
			a, c := b.real.TryRecv(), apart.TryRecv()
			want := string(a.Msg)
			spoil(a.Msg)
			is(t, "a message of the copy", string(c.Msg), want)
			spoil(c.Msg)
		}
	}
}

func TestApartWithMessagesAndSenders(t *testing.T) {
	for _, byPri := range bothOrders {
		row := fiveInOrder[byPri]
		b := full(t, byPri).wait(five...)
		apart := b.apart()
		b.drop(row[0])
		b.wait(waiter{row[0], 16, "other"})
		b.change(row[1], 16)
		b.tryRecv()
		b.recv(9, 9)
		apart.holds(1, 0, told(row), "")
		before := b.view()
		apart.empties(got(text('A', 20), row[:3]...), got(whose(row[0]), row[3]), got(whose(row[1]), row[4]), got(whose(row[2])), got(whose(row[3])), got(whose(row[4])))
		apart.listen(waiter{task: 9, pri: 9})
		is(t, "the buffer after that", b.view(), before)
	}
}

func TestApartWithReceivers(t *testing.T) {
	for _, byPri := range bothOrders {
		for _, size := range []int{0, 24} {
			b := made(t, byPri, 20, size).listen(five...)
			apart := b.apart()
			b.drop(3)
			b.trySend("x")
			b.recv(9, 9)
			apart.holds(0, size, "", "3 1 4 16 2")
			apart.drop(2)
			apart.recv(10, 1)
			b.holds(0, size, "", "4 16 2 9")
			is(t, "TrySend to a copy's receiver", apart.trySend("y"), to(3))
			apart.holds(0, size, "", "1 4 16 10")
			b.state()
		}
	}
}

// A copy keeps byPri, most and size, also if it is made of an empty buffer, and if it is the copy of a copy.
func TestApartKeepsTheBuffersWays(t *testing.T) {
	for _, byPri := range bothOrders {
		for _, most := range []int{1, 5, 1024} {
			for _, size := range []int{0, 8, 24} {
				b := made(t, byPri, most, size).apart().apart()
				is(t, "Size", b.real.Size(), size)
				is(t, "TrySend of a byte too many", b.trySend(text(1, most+1)), sent{code: api.Par})
				for b.trySend("x").ok {
				}
				for _, w := range five {
					b.wait(waiter{w.task, w.pri, text(w.task, most)})
				}
				b.apart().holds(size/8, 0, told(fiveInOrder[byPri]), "")
			}
		}
	}
}

// The methods of Ring are the buffer's own.
func TestTheMethodsOfRing(t *testing.T) {
	b := full(t, true)
	is(t, "Size", b.real.Size(), 24)
	is(t, "Len", b.real.Len(), 1)
	is(t, "Free", b.real.Free(), 0)
	is(t, "Fits", b.real.Fits(0), false)
	is(t, "Put", b.real.Put(nil), false)
	twin := b.real.Twin()
	msg, there := b.real.Get()
	is(t, "Get", string(msg), text('A', 20))
	is(t, "Get", there, true)
	is(t, "Fits", b.real.Fits(20), true)
	is(t, "Fits", b.real.Fits(21), false)
	is(t, "Put", b.real.Put([]byte("abc")), true)
	is(t, "Put", b.real.Put(nil), true)
	is(t, "Free", b.real.Free(), 12)
	is(t, "Free of the twin", twin.Free(), 0)
	b.want.ring = []string{"abc", ""}
	b.state()
	is(t, "Len of Ring itself", b.real.Ring.Len(), 2)
	b.empties(got("abc"), got("")) // what came through Ring may be empty
	_, there = b.real.Get()
	is(t, "Get of nothing", there, false)
}

// After a Get of Ring the first sender waits beside room for its message; Recv, Drop and Change see to that as they do elsewhere.
func TestAfterAGetOfRing(t *testing.T) {
	start := full(t, true).wait(waiter{1, 5, "one"}, waiter{2, 7, "two"})
	start.real.Get()
	start.want.ring = nil
	start.state()
	b := start.apart()
	b.empties(got("one", 1), got("two", 2))
	b = start.apart()
	is(t, "TrySend while one waits to send", b.trySend("x"), waits)
	is(t, "Drop", b.drop(2), "1")
	b = start.apart()
	is(t, "Change", b.change(1, 9), freed(2, 1))
	b.empties(got("two"), got("one"))
}

// Messages come in the order in which they were sent, each whole.
func TestMessagesComeInTheOrderInWhichTheyWereSent(t *testing.T) {
	for _, size := range []int{0, 8, 24, 64, 1028, 4096} {
		b, _ := NewBuffer(false, 60, size)
		next, come := 0, 0
		d := draws(size)
		for range 20000 {
			msg := text(next, 1+next*next%60)
			if d.below(2) == 0 {
				if ok, _, code := b.Send(1+next%16, 8, []byte(msg)); code == api.OK {
					next++
				} else if ok || code != api.Obj {
					t.Fatalf("P1601: Send is %v, %v", ok, code)
				}
			} else if got := b.TryRecv(); got.OK {
				if string(got.Msg) != text(come, 1+come*come%60) {
					t.Fatalf("P1601: message %d came as %q", come, got.Msg)
				}
				come++
			}
		}
		if come < 5000 || next-come > size/8+16 {
			t.Errorf("P1601: of %d messages, %d came", next, come)
		}
	}
}

// A zero Buffer is nobody's answer, but P1 holds of it, too.
func TestAZeroBufferDoesNotPanic(t *testing.T) {
	for _, call := range []func(b *Buffer){
		func(b *Buffer) { b.Send(1, 1, []byte("x")) },
		func(b *Buffer) { b.TrySend([]byte("x")) },
		func(b *Buffer) { b.Recv(1, 1) },
		func(b *Buffer) { b.TryRecv() },
		func(b *Buffer) { b.Recv(1, 1); b.Change(1, 2); b.Drop(1) },
		func(b *Buffer) { b.Drop(1) },
		func(b *Buffer) { b.Change(1, 1) },
		func(b *Buffer) { b.Senders() },
		func(b *Buffer) { b.Receivers() },
	} {
		b := new(Buffer)
		call(b)
		call(b.Apart())
	}
}

// draws are numbers that look drawn by lot, and are the same each time.
type draws uint64

func (d *draws) below(n int) int {
	*d = *d*6364136223846793005 + 1442695040888963407
	return int(uint64(*d>>33) % uint64(n))
}

func TestManyCallsAsTheModel(t *testing.T) {
	for seed := range 96 {
		d := draws(seed)
		most := []int{1, 5, 20, 40}[seed/12%4]
		b := made(t, seed&1 == 0, most, []int{0, 8, 24, 32, 64, 256}[seed/2%6])
		favour := 0 // at times more is sent, at times more received, so that the ring is full and empty in turn
		for i := range 300 {
			if i%50 == 0 {
				favour = d.below(5)
			}
			task, pri := d.below(18), 1+d.below([]int{2, 5, 17}[seed%3])
			msg := text(i, d.below(most+2))
			switch call := d.below(13); {
			case call < 2+favour:
				b.send(task, pri, msg)
			case call < 6:
				b.recv(task, pri)
			case call == 6:
				b.trySend(msg)
			case call == 7:
				b.tryRecv()
			case call <= 9:
				b.drop(task)
			case call <= 11:
				b.change(task, pri)
			default:
				left := b.apart()
				left.send(task, pri, msg)
				b.recv(task, pri)
				left.recv(d.below(18), pri)
				b.state()
			}
		}
	}
}

// P3: the same calls in the same order return the same.
func TestTheSameCallsReturnTheSame(t *testing.T) {
	run := func() string {
		b, _ := NewBuffer(true, 12, 24)
		all := ""
		d := draws(5)
		for i := range 300 {
			if d.below(2) == 0 {
				_, who, code := b.Send(d.below(18), d.below(18), []byte(text(i, d.below(14))))
				all += told([]int{who, int(code)})
			} else {
				g, code := b.Recv(d.below(18), d.below(18))
				all += receipt(tried(g)) + told([]int{int(code)})
			}
			all += told(b.Senders()) + told(b.Receivers())
		}
		return all
	}
	is(t, "the second run", run(), run())
}
