package sem

import (
	"cmp"
	"math"
	"slices"
	"testing"

	"detent/api"
	"detent/order"
)

type item = order.Item

var bothOrders = []bool{false, true}

// outside are neither tasks nor priorities. Many of them differ from one inside by a power of two.
var outside = []int{
	math.MinInt, math.MinInt + 1, -1 << 62, -1<<32 + 1, -1 << 32, math.MinInt32, -1 << 16, -256, -17, -16, -2, -1, 0,
	17, 18, 32, 33, 64, 256, 257, 1 << 16, 1<<16 + 1, math.MaxInt32, 1 << 32, 1<<32 + 1, 1 << 62, math.MaxInt - 1, math.MaxInt,
}

// model is the chapter's semaphore in its plainest form: those who wait stand in the order in which they came, and are sorted when they are asked for.
type model struct {
	byPri       bool
	count, most int
	came        []item
}

func (m *model) at(task int) int {
	return slices.IndexFunc(m.came, func(x item) bool { return x.ID == task })
}

func (m *model) row() []item {
	row := slices.Clone(m.came)
	if m.byPri {
		slices.SortStableFunc(row, func(a, b item) int { return cmp.Compare(a.Pri, b.Pri) })
	}
	return row
}

func (m *model) signal() (int, api.Code) {
	if row := m.row(); len(row) > 0 {
		m.remove(row[0].ID)
		return row[0].ID, api.OK
	}
	if m.count == m.most {
		return 0, api.Qovr
	}
	m.count++
	return 0, api.OK
}

func inside(n int) bool { return n >= 1 && n <= 16 }

func (m *model) wait(task, pri int) (bool, api.Code) {
	switch {
	case m.count > 0:
		m.count--
		return true, api.OK
	case !inside(task) || !inside(pri):
		return false, api.Par
	case m.at(task) >= 0:
		return false, api.Obj
	}
	m.came = append(m.came, item{ID: task, Pri: pri})
	return false, api.OK
}

func (m *model) poll() bool {
	if m.count == 0 {
		return false
	}
	m.count--
	return true
}

func (m *model) remove(task int) bool {
	at := m.at(task)
	if at >= 0 {
		m.came = slices.Delete(m.came, at, at+1)
	}
	return at >= 0
}

func (m *model) change(task, pri int) bool {
	at := m.at(task)
	if at < 0 || !inside(pri) {
		return false
	}
	if !m.byPri {
		m.came[at].Pri = pri
		return true
	}
	m.remove(task)
	m.came = append(m.came, item{ID: task, Pri: pri})
	return true
}

// both is a semaphore beside its model: each call is made on the two, the answers are held against each other, and then all that can be observed.
type both struct {
	t    *testing.T
	real *Sem
	want model
}

func made(t *testing.T, byPri bool, count, most int) *both {
	t.Helper()
	s, code := NewSem(byPri, count, most)
	if s == nil || code != api.OK {
		t.Fatalf("P1101: NewSem(%v, %d, %d) is %v, %v", byPri, count, most, s, code)
	}
	b := &both{t, s, model{byPri: byPri, count: count, most: most}}
	b.state()
	return b
}

// waited is a semaphore with Count 0 for which these wait.
func waited(t *testing.T, byPri bool, most int, items ...item) *both {
	t.Helper()
	b := made(t, byPri, 0, most)
	for _, x := range items {
		b.wait(x.ID, x.Pri)
	}
	if b.real.Len() != len(items) {
		t.Fatalf("P1101: of %v wait %v", items, b.real.Row())
	}
	return b
}

func (b *both) signal() {
	b.t.Helper()
	got, code := b.real.Signal()
	task, want := b.want.signal()
	if got != task || code != want {
		b.t.Errorf("P1101: Signal is %d, %v, not %d, %v", got, code, task, want)
	}
	b.state()
}

func (b *both) wait(task, pri int) {
	b.t.Helper()
	got, code := b.real.Wait(task, pri)
	ok, want := b.want.wait(task, pri)
	if got != ok || code != want {
		b.t.Errorf("P1101: Wait(%d, %d) is %v, %v, not %v, %v", task, pri, got, code, ok, want)
	}
	b.state()
}

func (b *both) poll() {
	b.t.Helper()
	if got, want := b.real.Poll(), b.want.poll(); got != want {
		b.t.Errorf("P1101: Poll is %v", got)
	}
	b.state()
}

func (b *both) remove(task int) {
	b.t.Helper()
	if got, want := b.real.Remove(task), b.want.remove(task); got != want {
		b.t.Errorf("P1101: Remove(%d) is %v", task, got)
	}
	b.state()
}

func (b *both) change(task, pri int) {
	b.t.Helper()
	if got, want := b.real.Change(task, pri), b.want.change(task, pri); got != want {
		b.t.Errorf("P1101: Change(%d, %d) is %v", task, pri, got)
	}
	b.state()
}

func (b *both) apart() *both {
	b.t.Helper()
	s := b.real.Apart()
	if s == nil || s == b.real || s.Queue == b.real.Queue {
		b.t.Fatal("P1101: the copy is nil, or it is the semaphore itself or has its Queue")
	}
	m := b.want
	m.came = slices.Clone(m.came)
	copied := &both{b.t, s, m}
	copied.state()
	b.state()
	return copied
}

// state asks for all that can be observed without a change.
func (b *both) state() {
	b.t.Helper()
	row := b.want.row()
	b.expect(b.want.count, row...)
	if b.real.Most != b.want.most {
		b.t.Errorf("P1101: Most is %d, not %d", b.real.Most, b.want.most)
	}
	if n := b.real.Len(); n != len(row) {
		b.t.Errorf("P1101: Len is %d, of %v", n, row)
	}
	first, there := b.real.First()
	if there != (len(row) > 0) || there && first != row[0] {
		b.t.Errorf("P1101: First is %v, %v, of %v", first, there, row)
	}
	for task := 0; task <= 17; task++ {
		at := b.want.at(task)
		pri := 0
		if at >= 0 {
			pri = b.want.came[at].Pri
		}
		if got, ok := b.real.Pri(task); got != pri || ok != (at >= 0) || b.real.Has(task) != ok {
			b.t.Errorf("P1101: Pri(%d) is %d, %v, of %v", task, got, ok, row)
		}
	}
	if b.real.Len() > 0 && b.real.Count != 0 {
		b.t.Errorf("P1101: Count is %d while %v wait", b.real.Count, b.real.Row())
	}
}

// expect is of Count and of those who wait, as the test itself writes them.
func (b *both) expect(count int, row ...item) {
	b.t.Helper()
	if got := b.real.Row(); b.real.Count != count || !slices.Equal(got, row) {
		b.t.Errorf("P1101: Count is %d and %v wait, not %d and %v", b.real.Count, got, count, row)
	}
}

// expectSignal is a Signal whose answer the test itself writes.
func (b *both) expectSignal(task int, want api.Code) {
	b.t.Helper()
	copied := b.real.Apart()
	if got, code := copied.Signal(); got != task || code != want {
		b.t.Errorf("P1101: Signal is %d, %v, not %d, %v", got, code, task, want)
	}
	b.signal()
}

func TestTheLimits(t *testing.T) {
	if api.MaxTasks != 16 || api.MaxPri != 16 || api.MaxSem != 65535 {
		t.Fatal("the tests speak of 16 tasks, 16 priorities, and a count of 65535")
	}
}

func TestTheChaptersExample(t *testing.T) {
	s, code := NewSem(true, 1, 2)
	if s == nil || code != api.OK {
		t.Fatalf("P1101: NewSem is %v", code)
	}
	for i, c := range []struct {
		task, pri int
		ok        bool
		code      api.Code
	}{{3, 5, true, api.OK}, {3, 5, false, api.OK}, {4, 2, false, api.OK}, {4, 2, false, api.Obj}} {
		if ok, code := s.Wait(c.task, c.pri); ok != c.ok || code != c.code {
			t.Errorf("P1101: Wait %d is %v, %v", i, ok, code)
		}
	}
	if row := s.Row(); !slices.Equal(row, []item{{ID: 4, Pri: 2}, {ID: 3, Pri: 5}}) || s.Count != 0 {
		t.Errorf("P1101: Count is %d, and %v wait", s.Count, row)
	}
}

func TestNewSem(t *testing.T) {
	for _, byPri := range bothOrders {
		for _, c := range [][2]int{{0, 1}, {1, 1}, {0, 2}, {1, 2}, {2, 2}, {0, 65534}, {65534, 65534}, {0, 65535}, {1, 65535}, {65534, 65535}, {65535, 65535}} {
			b := made(t, byPri, c[0], c[1])
			b.expect(c[0])
			if b.real.Most != c[1] {
				t.Errorf("P1101: NewSem(%v, %d, %d) has Most %d", byPri, c[0], c[1], b.real.Most)
			}
		}
	}
}

func TestNewSemRefuses(t *testing.T) {
	far := []int{math.MinInt, math.MinInt + 1, -1 << 32, -65535, -2, -1}
	high := []int{65536, 65537, 1 << 17, 1 << 31, 1 << 32, 1<<32 + 1, math.MaxInt - 1, math.MaxInt}
	refused := func(count, most int) {
		t.Helper()
		for _, byPri := range bothOrders {
			if s, code := NewSem(byPri, count, most); s != nil || code != api.Par {
				t.Errorf("P1101, P4: NewSem(%v, %d, %d) is %v, %v", byPri, count, most, s, code)
			}
		}
	}
	for _, most := range slices.Concat(far, []int{0}, high) {
		for _, count := range slices.Concat(far, []int{0, 1, most, 65535}, high) {
			refused(count, most)
		}
	}
	for _, most := range []int{1, 2, 7, 65534, 65535} {
		for _, count := range slices.Concat(far, []int{most + 1, most + 2}, high) {
			refused(count, most)
		}
	}
}

func TestNewSemsShareNothing(t *testing.T) {
	for _, byPri := range bothOrders {
		a, b := made(t, byPri, 1, 2), made(t, byPri, 1, 2)
		a.poll()
		a.wait(1, 1)
		b.state()
		b.signal()
		b.poll()
		b.poll()
		b.wait(2, 2)
		a.state()
		made(t, byPri, 1, 2).expect(1)
	}
}

func TestSignalWhileNoneWaits(t *testing.T) {
	for _, byPri := range bothOrders {
		b := made(t, byPri, 0, 3)
		for count := 1; count <= 3; count++ {
			b.expectSignal(0, api.OK)
			b.expect(count)
		}
		for range 3 {
			b.expectSignal(0, api.Qovr)
			b.expect(3)
		}
		b.poll() // below Most again
		b.expectSignal(0, api.OK)
		b.expectSignal(0, api.Qovr)
		b.expect(3)
	}
}

func TestSignalAtMost(t *testing.T) {
	for _, byPri := range bothOrders {
		for _, most := range []int{1, 2, 7, 255, 256, 65534, 65535} {
			b := made(t, byPri, most-1, most)
			b.expectSignal(0, api.OK)
			b.expect(most)
			b.expectSignal(0, api.Qovr)
			b.expect(most)
			full := made(t, byPri, most, most)
			full.expectSignal(0, api.Qovr)
			full.expect(most)
		}
	}
}

func TestSignalFromNoneToTheGreatestMost(t *testing.T) {
	s, _ := NewSem(false, 0, 65535)
	for i := range 65535 {
		if task, code := s.Signal(); task != 0 || code != api.OK || s.Count != i+1 {
			t.Fatalf("P1101: Signal %d is %d, %v, with Count %d", i, task, code, s.Count)
		}
	}
	if task, code := s.Signal(); task != 0 || code != api.Qovr || s.Count != 65535 {
		t.Errorf("P1101: Signal at Most is %d, %v, with Count %d", task, code, s.Count)
	}
	for i := range 65535 {
		if !s.Poll() || s.Count != 65534-i {
			t.Fatalf("P1101: Poll %d left Count %d", i, s.Count)
		}
	}
	if s.Poll() || s.Count != 0 {
		t.Errorf("P1101: Poll of none left Count %d", s.Count)
	}
}

func TestSignalWhileOneWaits(t *testing.T) {
	for _, byPri := range bothOrders {
		for _, most := range []int{1, 2, 65535} {
			for task := 1; task <= 16; task++ {
				b := waited(t, byPri, most, item{ID: task, Pri: 17 - task})
				b.expectSignal(task, api.OK)
				b.expect(0) // the task has it: it is not counted as well
				b.poll()
				b.expectSignal(0, api.OK)
				b.expect(1)
			}
		}
	}
}

var five = []item{{ID: 3, Pri: 5}, {ID: 1, Pri: 2}, {ID: 4, Pri: 5}, {ID: 16, Pri: 1}, {ID: 2, Pri: 2}}

func TestSignalWhileSeveralWait(t *testing.T) {
	for byPri, tasks := range map[bool][]int{false: {3, 1, 4, 16, 2}, true: {16, 1, 2, 3, 4}} {
		b := waited(t, byPri, 2, five...)
		for _, task := range tasks {
			b.expectSignal(task, api.OK)
		}
		b.expectSignal(0, api.OK)
		b.expectSignal(0, api.OK)
		b.expectSignal(0, api.Qovr)
		b.expect(2)
	}
}

func TestEqualPrioritiesInTheOrderInWhichTheyCame(t *testing.T) {
	came := []int{16, 1, 15, 2, 14, 3, 13, 4, 12, 5, 11, 6, 10, 7, 9, 8}
	for _, byPri := range bothOrders {
		for _, pri := range []int{1, 8, 16} {
			b := made(t, byPri, 0, 1)
			for _, task := range came {
				b.wait(task, pri)
			}
			for _, task := range came {
				b.expectSignal(task, api.OK)
			}
			b.expect(0)
		}
	}
}

func TestAllTasksWaitEachWithItsOwnPriority(t *testing.T) {
	for _, byPri := range bothOrders {
		b := made(t, byPri, 0, 65535)
		for task := 1; task <= 16; task++ {
			b.wait(task, 17-task)
		}
		for i := 1; i <= 16; i++ {
			if byPri {
				b.expectSignal(17-i, api.OK)
			} else {
				b.expectSignal(i, api.OK)
			}
		}
		b.expect(0)
	}
}

func TestThoseWhoComeLaterByPriority(t *testing.T) {
	b := waited(t, true, 1, item{ID: 5, Pri: 7}, item{ID: 6, Pri: 7})
	b.expectSignal(5, api.OK)
	b.wait(5, 7) // comes anew, behind its equals
	b.wait(8, 3) // comes last, is first
	b.expect(0, item{ID: 8, Pri: 3}, item{ID: 6, Pri: 7}, item{ID: 5, Pri: 7})
	b.expectSignal(8, api.OK)
	b.expectSignal(6, api.OK)
	b.expectSignal(5, api.OK)
	b.expectSignal(0, api.OK)
	b.expectSignal(0, api.Qovr)
}

func TestWaitWithACount(t *testing.T) {
	for _, byPri := range bothOrders {
		for _, most := range []int{1, 3, 65535} {
			count := min(most, 3)
			b := made(t, byPri, count, most)
			for left := count - 1; left >= 0; left-- {
				if ok, code := b.real.Apart().Wait(7, 2); !ok || code != api.OK {
					t.Errorf("P1101: Wait is %v, %v", ok, code)
				}
				b.wait(7, 2) // the same task: it does not wait
				b.expect(left)
			}
			if ok, code := b.real.Apart().Wait(7, 2); ok || code != api.OK {
				t.Errorf("P1101: Wait without a Count is %v, %v", ok, code)
			}
			b.wait(7, 2)
			b.expect(0, item{ID: 7, Pri: 2})
		}
	}
	b := made(t, true, 65535, 65535)
	b.wait(1, 1)
	b.expect(65534)
}

// The chapter asks nothing of task and pri as long as nobody is added to the Queue.
func TestWaitWithACountAsksNothingOfTheTask(t *testing.T) {
	for _, byPri := range bothOrders {
		for _, n := range outside {
			b := made(t, byPri, 3, 3)
			b.wait(n, 1)
			b.wait(1, n)
			b.wait(n, n)
			b.expect(0)
		}
	}
}

func TestWaitForEveryTaskWithEveryPriority(t *testing.T) {
	for _, byPri := range bothOrders {
		for task := 1; task <= 16; task++ {
			for pri := 1; pri <= 16; pri++ {
				b := made(t, byPri, 0, 1)
				if ok, code := b.real.Apart().Wait(task, pri); ok || code != api.OK {
					t.Errorf("P1101: Wait(%d, %d) is %v, %v", task, pri, ok, code)
				}
				b.wait(task, pri)
				b.expect(0, item{ID: task, Pri: pri})
			}
		}
	}
}

// refuses asks that Wait returns this code and false, and changes nothing.
func (b *both) refuses(task, pri int, want api.Code) {
	b.t.Helper()
	row := b.real.Row()
	if ok, code := b.real.Wait(task, pri); ok || code != want {
		b.t.Errorf("P1101, P4: Wait(%d, %d) is %v, %v, not %v", task, pri, ok, code, want)
	}
	b.expect(0, row...)
	b.state()
}

func TestWaitRefusesWhatMayNotBe(t *testing.T) {
	for _, byPri := range bothOrders {
		for _, b := range []*both{waited(t, byPri, 2), waited(t, byPri, 2, five...)} {
			for _, bad := range outside {
				for _, other := range append([]int{1, 3, 5, 15, 16}, outside...) {
					b.refuses(bad, other, api.Par)
					b.refuses(other, bad, api.Par) // also for a task that waits: Par comes before Obj
				}
			}
			b.wait(5, 1)
			b.signal()
		}
	}
}

func TestWaitRefusesOneWhoWaits(t *testing.T) {
	for _, byPri := range bothOrders {
		b := waited(t, byPri, 2, five...)
		for _, x := range five {
			for pri := 1; pri <= 16; pri++ {
				b.refuses(x.ID, pri, api.Obj)
			}
		}
		first, _ := b.real.First()
		b.signal()
		b.wait(first.ID, first.Pri) // it waits no more, so it may
		b.refuses(first.ID, first.Pri, api.Obj)
	}
}

func TestPoll(t *testing.T) {
	for _, byPri := range bothOrders {
		b := made(t, byPri, 2, 2)
		for _, c := range []struct {
			ok   bool
			left int
		}{{true, 1}, {true, 0}, {false, 0}, {false, 0}} {
			if ok := b.real.Apart().Poll(); ok != c.ok {
				t.Errorf("P1101: Poll is %v, with Count %d", ok, b.real.Count)
			}
			b.poll()
			b.expect(c.left)
		}
		b.signal()
		b.expect(1)
		b.poll()
		b.expect(0)
	}
}

func TestPollWhileTasksWait(t *testing.T) {
	for _, byPri := range bothOrders {
		b := waited(t, byPri, 2, five...)
		row := b.real.Row()
		for range 3 {
			b.poll()
			b.expect(0, row...)
		}
		if b.real.Poll() {
			t.Error("P1101: Poll is true while tasks wait")
		}
	}
}

func TestTasksLeaveTheQueueWhileTheyWait(t *testing.T) {
	for _, byPri := range bothOrders {
		for _, x := range five {
			b := waited(t, byPri, 2, five...)
			b.remove(x.ID)
			b.remove(x.ID)
			for range 4 {
				b.signal()
			}
			b.expectSignal(0, api.OK)
			b.expect(1)
		}
		b := waited(t, byPri, 2, item{ID: 9, Pri: 9})
		b.remove(9)
		b.expect(0) // whoever leaves so takes nothing and brings nothing
		b.poll()
		b.expectSignal(0, api.OK)
		b.expect(1)
	}
}

func TestLeavingAndComingAgain(t *testing.T) {
	for byPri, tasks := range map[bool][]int{false: {1, 4, 16, 2, 3}, true: {16, 1, 2, 4, 3}} {
		b := waited(t, byPri, 1, five...)
		b.remove(3)
		b.wait(3, 5)
		for _, task := range tasks {
			b.expectSignal(task, api.OK)
		}
	}
}

func TestTakeIsPromoted(t *testing.T) {
	for _, byPri := range bothOrders {
		b := waited(t, byPri, 2, five...)
		for _, x := range b.want.row() {
			if got, ok := b.real.Take(); got != x || !ok {
				t.Errorf("P1101: Take is %v, %v, not %v", got, ok, x)
			}
			b.want.remove(x.ID)
			b.state()
		}
		if got, ok := b.real.Take(); ok || got != (item{}) {
			t.Errorf("P1101: Take of none is %v, %v", got, ok)
		}
		b.expectSignal(0, api.OK)
	}
}

func TestAddIsPromoted(t *testing.T) {
	for _, byPri := range bothOrders {
		b := waited(t, byPri, 2, five...)
		if code := b.real.Add(9, 1); code != api.OK {
			t.Errorf("P1101: Add is %v", code)
		}
		b.want.wait(9, 1)
		b.state()
		b.refuses(9, 1, api.Obj)
		for range 6 {
			b.signal()
		}
		b.expect(0)
	}
}

func TestTwinIsOfTheQueueAlone(t *testing.T) {
	b := waited(t, true, 2, five...)
	twin := b.real.Twin()
	twin.Take()
	b.state()
	b.signal()
	b.signal()
	if n := twin.Len(); n != 4 {
		t.Errorf("P1101: the twin has %d items", n)
	}
}

func TestPrioritiesChangeWhileTasksWait(t *testing.T) {
	for byPri, tasks := range map[bool][]int{false: {3, 1, 4, 16, 2}, true: {4, 2, 1, 3, 16}} {
		b := waited(t, byPri, 1, five...)
		b.change(4, 1)   // higher
		b.change(16, 16) // lower
		b.change(1, 2)   // the same
		b.change(5, 1)   // does not wait
		b.change(3, 0)
		b.change(3, 17)
		for _, task := range tasks {
			b.expectSignal(task, api.OK)
		}
		b.expectSignal(0, api.OK)
	}
	for _, byPri := range bothOrders {
		for _, x := range five {
			for pri := 1; pri <= 16; pri++ {
				b := waited(t, byPri, 1, five...)
				b.change(x.ID, pri)
				for range five {
					b.signal()
				}
				b.expect(0)
			}
		}
	}
}

func TestWhatIsReturnedIsNotKept(t *testing.T) {
	b := waited(t, true, 1, five...)
	row := b.real.Row()
	row = row[:cap(row)]
	for i := range row {
		row[i] = item{ID: 7, Pri: 7}
	}
	b.state()
}

func TestApartWithTasksThatWait(t *testing.T) {
	for _, byPri := range bothOrders {
		b := waited(t, byPri, 2, five...)
		row := b.real.Row()
		c := b.apart()
		b.signal()
		b.signal()
		c.expect(0, row...)
		c.remove(3)
		c.wait(9, 1)
		c.change(2, 16)
		b.expect(0, row[2:]...)
		for range 5 {
			b.signal()
		}
		b.expect(2)
		c.expectSignal(c.want.row()[0].ID, api.OK)
		b.poll()
		b.wait(6, 6)
		b.wait(6, 6)
		b.expect(0, item{ID: 6, Pri: 6})
		c.state()
		if c.real.Len() != 4 || c.real.Has(6) {
			t.Errorf("P1101: in the copy wait %v", c.real.Row())
		}
	}
}

func TestApartWithACount(t *testing.T) {
	for _, byPri := range bothOrders {
		b := made(t, byPri, 2, 3)
		c := b.apart()
		b.poll()
		b.poll()
		c.expect(2)
		c.expectSignal(0, api.OK)
		c.expectSignal(0, api.Qovr) // at its own Most
		b.expect(0)
		b.wait(1, 1)
		c.expect(3)
		c.poll()
		b.expect(0, item{ID: 1, Pri: 1})
		c.expect(2)
		b.real.Most = 1
		if c.real.Most != 3 {
			t.Errorf("P1101: the copy's Most is %d", c.real.Most)
		}
	}
}

// The copy keeps the order of waiting, also if nobody waits when it is made.
func TestApartKeepsTheOrder(t *testing.T) {
	for byPri, tasks := range map[bool][]int{false: {3, 1, 4, 16, 2}, true: {16, 1, 2, 3, 4}} {
		b := made(t, byPri, 0, 1).apart().apart()
		for _, x := range five {
			b.wait(x.ID, x.Pri)
		}
		for _, task := range tasks {
			b.expectSignal(task, api.OK)
		}
	}
}

// A zero Sem is nobody's answer, but P1 holds of it, too.
func TestAZeroSemDoesNotPanic(t *testing.T) {
	for _, call := range []func(s *Sem){
		func(s *Sem) { s.Signal() },
		func(s *Sem) { s.Wait(1, 1) },
		func(s *Sem) { s.Wait(0, 0) },
		func(s *Sem) { s.Poll() },
		func(s *Sem) { s.Apart().Signal() },
	} {
		s := new(Sem)
		call(s)
		s.Apart().Wait(2, 2)
		s.Poll()
		s.Wait(3, 3)
		s.Signal()
	}
}

// Count and Most are open; with values that no call makes only P1 holds.
func TestCountsThatNoCallMakesDoNotPanic(t *testing.T) {
	far := []int{math.MinInt, -1, 0, 1, 65535, 65536, math.MaxInt}
	for _, count := range far {
		for _, most := range far {
			s := &Sem{order.New(true), count, most}
			s.Signal()
			s.Poll()
			s.Wait(1, 1)
			s.Wait(0, 0)
			s.Apart().Signal()
		}
	}
}

// draws are numbers that look drawn by lot, and are the same each time.
type draws uint64

func (d *draws) below(n int) int {
	*d = *d*6364136223846793005 + 1442695040888963407
	return int(uint64(*d>>33) % uint64(n))
}

func TestManyCallsAsTheModel(t *testing.T) {
	for seed := range 40 {
		d := draws(seed)
		most := []int{1, 2, 3, 5, 65535}[seed%5]
		b := made(t, seed%2 == 0, d.below(min(most, 4)+1), most)
		waits := 2 + d.below(5) // of ten calls; the more, the more tasks wait
		for range 400 {
			task, pri := d.below(18), 1+d.below([]int{2, 5, 17}[seed%3])
			switch k := d.below(10); {
			case k < waits:
				b.wait(task, pri)
			case k < 7:
				b.signal()
			case k == 7:
				b.poll()
			case k == 8 && task%2 == 0:
				b.remove(task)
			case k == 8:
				b.change(task, pri)
			default:
				left := b.apart()
				b.signal()
				left.state()
				left.wait(task, pri)
				b.state()
			}
		}
	}
}

// P3: the same calls in the same order return the same.
func TestTheSameCallsReturnTheSame(t *testing.T) {
	run := func() []int {
		s, _ := NewSem(true, 2, 3)
		var told []int
		d := draws(5)
		for range 300 {
			if d.below(2) == 0 {
				ok, code := s.Wait(d.below(18), d.below(18))
				told = append(told, int(code), s.Count)
				if ok {
					told = append(told, 1)
				}
				continue
			}
			task, code := s.Signal()
			told = append(told, task, int(code), s.Len())
		}
		return told
	}
	if a, b := run(), run(); !slices.Equal(a, b) {
		t.Errorf("P3: %v, and then %v", a, b)
	}
}
