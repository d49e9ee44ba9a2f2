package ready

import (
	"cmp"
	"math"
	"slices"
	"testing"

	"detent/api"
)

// outside are neither tasks nor priorities. Many of them differ from one inside by a power of two.
var outside = []int{
	math.MinInt, math.MinInt + 1, math.MinInt + 16, -1 << 62, -1<<32 + 1, -1 << 32, math.MinInt32, -1 << 16, -257, -256, -255, -64, -17, -16, -15, -2, -1, 0,
	17, 18, 31, 32, 33, 64, 65, 255, 256, 257, 272, 1 << 16, 1<<16 + 1, math.MaxInt32, 1 << 32, 1<<32 + 1, 1<<32 + 5, 1 << 62, math.MaxInt - 15, math.MaxInt - 1, math.MaxInt,
}

// entry is a task and its priority.
type entry struct{ task, pri int }

// model is the chapter's queue, in its plainest form: the tasks in the order in which they came, whatever their priorities.
type model []entry

func (m model) at(task int) int {
	return slices.IndexFunc(m, func(e entry) bool { return e.task == task })
}

func (m model) row(pri int) []int {
	var row []int
	for _, e := range m {
		if e.pri == pri {
			row = append(row, e.task)
		}
	}
	return row
}

func (m model) all() []int {
	sorted := slices.Clone(m)
	slices.SortStableFunc(sorted, func(a, b entry) int { return cmp.Compare(a.pri, b.pri) })
	var all []int
	for _, e := range sorted {
		all = append(all, e.task)
	}
	return all
}

func inside(n int) bool { return n >= 1 && n <= 16 }

func (m *model) add(task, pri int) api.Code {
	if !inside(task) || !inside(pri) {
		return api.Par
	}
	if m.at(task) >= 0 {
		return api.Obj
	}
	*m = append(*m, entry{task, pri})
	return api.OK
}

func (m *model) remove(task int) bool {
	before := len(*m)
	*m = slices.DeleteFunc(*m, func(e entry) bool { return e.task == task })
	return len(*m) < before
}

func (m *model) change(task, pri int) bool {
	if m.at(task) < 0 || !inside(pri) {
		return false
	}
	m.remove(task)
	m.add(task, pri)
	return true
}

func (m *model) rotate(pri int) api.Code {
	if !inside(pri) {
		return api.Par
	}
	if row := m.row(pri); len(row) > 0 {
		m.change(row[0], pri)
	}
	return api.OK
}

// both is a queue beside its model: each call is made on the two, the answers are held against each other, and then all that can be observed.
type both struct {
	t    *testing.T
	real *Queue
	want model
}

// filled is a new queue to which the tasks were added, all of which must be taken.
func filled(t *testing.T, entries ...entry) *both {
	t.Helper()
	b := &both{t: t, real: New()}
	if b.real == nil {
		t.Fatal("P901: New is nil")
	}
	b.state()
	for _, e := range entries {
		b.add(e.task, e.pri)
	}
	if len(b.want) != len(entries) {
		t.Fatalf("%d of %v were refused", len(entries)-len(b.want), entries)
	}
	return b
}

// allTasks is an entry for each task, with the priority that pri gives it.
func allTasks(pri func(task int) int) []entry {
	var entries []entry
	for task := 1; task <= api.MaxTasks; task++ {
		entries = append(entries, entry{task, pri(task)})
	}
	return entries
}

// some are queues of every sort: none, one, several in one priority and in several, all.
func some(t *testing.T) []*both {
	t.Helper()
	return []*both{
		filled(t),
		filled(t, entry{1, 1}),
		filled(t, entry{16, 16}),
		filled(t, entry{16, 1}, entry{1, 16}),
		filled(t, entry{3, 5}, entry{1, 5}, entry{2, 9}, entry{16, 16}, entry{4, 5}),
		filled(t, allTasks(func(int) int { return 1 })...),
		filled(t, allTasks(func(int) int { return 16 })...),
		filled(t, allTasks(func(task int) int { return task })...),
		filled(t, allTasks(func(task int) int { return 17 - task })...),
		filled(t, allTasks(func(task int) int { return task*7%3 + 8 })...),
	}
}

func (b *both) add(task, pri int) {
	b.t.Helper()
	got, want := b.real.Add(task, pri), b.want.add(task, pri)
	if got != want {
		b.t.Errorf("P901: Add(%d, %d) is %v, not %v", task, pri, got, want)
	}
	b.state()
}

func (b *both) remove(task int) {
	b.t.Helper()
	got, want := b.real.Remove(task), b.want.remove(task)
	if got != want {
		b.t.Errorf("P901: Remove(%d) is %v", task, got)
	}
	b.state()
}

func (b *both) change(task, pri int) {
	b.t.Helper()
	got, want := b.real.Change(task, pri), b.want.change(task, pri)
	if got != want {
		b.t.Errorf("P901: Change(%d, %d) is %v", task, pri, got)
	}
	b.state()
}

func (b *both) rotate(pri int) {
	b.t.Helper()
	got, want := b.real.Rotate(pri), b.want.rotate(pri)
	if got != want {
		b.t.Errorf("P901: Rotate(%d) is %v, not %v", pri, got, want)
	}
	b.state()
}

func (b *both) twin() *both {
	b.t.Helper()
	twin := &both{b.t, b.real.Twin(), slices.Clone(b.want)}
	if twin.real == b.real || twin.real == nil {
		b.t.Fatal("P901: the twin is the queue itself, or nil")
	}
	twin.state()
	return twin
}

// state asks for all that can be observed without a change.
func (b *both) state() {
	b.t.Helper()
	all := b.want.all()
	b.expectAll(all...)
	first := 0
	if len(all) > 0 {
		first = all[0]
	}
	if task, ok := b.real.First(); task != first || ok != (len(all) > 0) {
		b.t.Errorf("P901, W1, P4: First is %d, %v, of %v", task, ok, all)
	}
	for n := -2; n <= api.MaxTasks+3; n++ {
		b.stateAt(n)
	}
	for _, n := range outside {
		b.stateAt(n)
	}
}

// stateAt asks for n as a task and as a priority.
func (b *both) stateAt(n int) {
	b.t.Helper()
	if got, want := b.real.Row(n), b.want.row(n); !slices.Equal(got, want) {
		b.t.Errorf("P901: Row(%d) is %v, not %v", n, got, want)
	}
	at := b.want.at(n)
	pri := 0
	if at >= 0 {
		pri = b.want[at].pri
	}
	if got, ok := b.real.Pri(n); got != pri || ok != (at >= 0) {
		b.t.Errorf("P901, P4: Pri(%d) is %d, %v, not %d", n, got, ok, pri)
	}
}

func (b *both) expectAll(want ...int) {
	b.t.Helper()
	if got := b.real.All(); !slices.Equal(got, want) {
		b.t.Errorf("P901: All is %v, not %v", got, want)
	}
}

func TestTheChaptersExample(t *testing.T) {
	q := New()
	for _, e := range []entry{{3, 5}, {1, 5}, {2, 9}, {16, 16}, {4, 5}} {
		if code := q.Add(e.task, e.pri); code != api.OK {
			t.Errorf("P901: Add(%d, %d) is %v", e.task, e.pri, code)
		}
	}
	if all := q.All(); !slices.Equal(all, []int{3, 1, 4, 2, 16}) {
		t.Errorf("P901: All is %v", all)
	}
	if code := q.Rotate(5); code != api.OK {
		t.Errorf("P901: Rotate(5) is %v", code)
	}
	if all := q.All(); !slices.Equal(all, []int{1, 4, 3, 2, 16}) {
		t.Errorf("P901: All is %v after Rotate", all)
	}
}

func TestTheLimits(t *testing.T) {
	if api.MaxTasks != 16 || api.MaxPri != 16 {
		t.Fatal("the tests speak of sixteen tasks and sixteen priorities")
	}
}

func TestNewIsEmpty(t *testing.T) {
	q := New()
	if task, ok := q.First(); task != 0 || ok {
		t.Errorf("P901, P4: First is %d, %v", task, ok)
	}
	if all := q.All(); len(all) != 0 {
		t.Errorf("P901: All is %v", all)
	}
	for n := 1; n <= 16; n++ {
		if row := q.Row(n); len(row) != 0 {
			t.Errorf("P901: Row(%d) is %v", n, row)
		}
		if pri, ok := q.Pri(n); pri != 0 || ok {
			t.Errorf("P901, P4: Pri(%d) is %d, %v", n, pri, ok)
		}
		if q.Remove(n) || q.Change(n, 1) || q.Change(n, 16) || q.Change(n, n) {
			t.Errorf("P901: the task %d is in an empty queue", n)
		}
		if code := q.Rotate(n); code != api.OK {
			t.Errorf("P901: Rotate(%d) of none is %v", n, code)
		}
	}
	(&both{t: t, real: q}).state()
}

func TestAZeroQueueIsEmpty(t *testing.T) {
	b := &both{t: t, real: &Queue{}}
	b.state()
	b.remove(1)
	b.change(1, 1)
	b.rotate(1)
	b.twin().add(2, 2)
	b.add(16, 16)
}

func TestNewQueuesShareNothing(t *testing.T) {
	a, b := filled(t), filled(t)
	a.add(2, 2)
	b.state()
	b.add(2, 3)
	b.add(1, 2)
	a.state()
	b.remove(2)
	a.state()
	filled(t).state()
}

func TestAdd(t *testing.T) {
	for _, c := range []struct {
		entries []entry
		all     []int
	}{
		{[]entry{{1, 1}}, []int{1}},
		{[]entry{{16, 16}}, []int{16}},
		{[]entry{{1, 16}, {16, 1}}, []int{16, 1}},
		{[]entry{{16, 1}, {1, 16}}, []int{16, 1}},
		{[]entry{{5, 7}, {3, 7}, {4, 7}}, []int{5, 3, 4}}, // equal ones: not by their numbers
		{[]entry{{1, 3}, {2, 2}, {3, 1}}, []int{3, 2, 1}},
		{[]entry{{9, 8}, {8, 9}, {7, 8}, {6, 9}, {5, 7}, {4, 8}, {3, 10}, {2, 7}}, []int{5, 2, 9, 7, 4, 8, 6, 3}},
	} {
		b := filled(t, c.entries...)
		b.expectAll(c.all...)
	}
}

func TestEveryTaskWithEveryPriority(t *testing.T) {
	for task := 1; task <= 16; task++ {
		for pri := 1; pri <= 16; pri++ {
			b := filled(t, entry{task, pri})
			b.expectAll(task)
			if first, ok := b.real.First(); first != task || !ok {
				t.Errorf("P901: First is %d, %v, not %d", first, ok, task)
			}
			if row := b.real.Row(pri); !slices.Equal(row, []int{task}) {
				t.Errorf("P901: Row(%d) is %v, not %d", pri, row, task)
			}
			if got, ok := b.real.Pri(task); got != pri || !ok {
				t.Errorf("P901: Pri(%d) is %d, %v, not %d", task, got, ok, pri)
			}
			b.rotate(pri) // one task alone
			b.change(task, pri)
			b.change(task, 17-pri)
			b.remove(task)
			b.expectAll()
			b.remove(task)
			b.add(task, pri)
		}
	}
}

func TestAllTasksOfOnePriority(t *testing.T) {
	for pri := 1; pri <= 16; pri++ {
		b := filled(t)
		want := []int{16, 1, 15, 2, 14, 3, 13, 4, 12, 5, 11, 6, 10, 7, 9, 8}
		for _, task := range want {
			b.add(task, pri)
		}
		b.expectAll(want...)
		if row := b.real.Row(pri); !slices.Equal(row, want) {
			t.Errorf("P901: Row(%d) is %v", pri, row)
		}
		for range want { // as often as there are tasks
			b.rotate(pri)
			want = append(want[1:], want[0])
			b.expectAll(want...)
		}
		b.expectAll(16, 1, 15, 2, 14, 3, 13, 4, 12, 5, 11, 6, 10, 7, 9, 8)
		for task := 1; task <= 16; task++ {
			b.add(task, pri) // there already
			b.change(task, pri)
		}
		b.expectAll(1, 2, 3, 4, 5, 6, 7, 8, 9, 10, 11, 12, 13, 14, 15, 16)
	}
}

func TestEachTaskWithItsOwnPriority(t *testing.T) {
	b := filled(t, allTasks(func(task int) int { return 17 - task })...)
	b.expectAll(16, 15, 14, 13, 12, 11, 10, 9, 8, 7, 6, 5, 4, 3, 2, 1)
	for pri := 1; pri <= 16; pri++ {
		b.rotate(pri)
	}
	b.expectAll(16, 15, 14, 13, 12, 11, 10, 9, 8, 7, 6, 5, 4, 3, 2, 1)
	for task := 16; task >= 1; task-- {
		if first, ok := b.real.First(); first != task || !ok {
			t.Errorf("P901, W1: First is %d, %v, not %d", first, ok, task)
		}
		b.remove(task)
	}
	b.expectAll()
}

func TestFirstFollowsWhatComesAndGoes(t *testing.T) {
	b := filled(t)
	first := func(want int) {
		t.Helper()
		if task, ok := b.real.First(); task != want || ok != (want != 0) {
			t.Errorf("P901, W1: First is %d, %v, not %d", task, ok, want)
		}
	}
	first(0)
	b.add(5, 9)
	first(5)
	b.add(6, 9)
	first(5)
	b.add(7, 8)
	first(7)
	b.add(8, 10)
	first(7)
	b.rotate(9)
	first(7)
	b.remove(7)
	first(6)
	b.change(8, 9)
	first(6)
	b.change(8, 1)
	first(8)
	b.change(8, 16)
	first(6)
	b.remove(6)
	first(5)
	b.remove(5)
	first(8)
	b.remove(8)
	first(0)
}

func TestRemove(t *testing.T) {
	three := []entry{{4, 7}, {9, 7}, {2, 7}, {1, 6}, {3, 8}}
	for _, c := range []struct {
		task  int
		left  []int
		again []int
	}{
		{4, []int{1, 9, 2, 3}, []int{1, 9, 2, 4, 3}}, // the first
		{9, []int{1, 4, 2, 3}, []int{1, 4, 2, 9, 3}}, // one between
		{2, []int{1, 4, 9, 3}, []int{1, 4, 9, 2, 3}}, // the last
	} {
		b := filled(t, three...)
		b.remove(c.task)
		b.expectAll(c.left...)
		b.remove(c.task)
		b.expectAll(c.left...)
		b.add(c.task, 7)
		b.expectAll(c.again...)
	}
	b := filled(t, three...)
	b.remove(1) // the only one of its priority
	b.remove(3)
	b.expectAll(4, 9, 2)
	b.add(1, 8)
	b.add(3, 6)
	b.expectAll(3, 4, 9, 2, 1)
}

func TestRemoveInEveryPlaceAndAddAgain(t *testing.T) {
	for n := 1; n <= 16; n++ {
		for task := 1; task <= n; task++ {
			b := filled(t, allTasks(func(int) int { return 4 })[:n]...)
			b.remove(task)
			b.add(task, 4)
			b.rotate(4)
			b.remove(task)
			b.add(task, 3)
		}
	}
}

func TestChange(t *testing.T) {
	for _, c := range []struct {
		task, pri int
		all       []int
	}{
		{1, 5, []int{3, 4, 1, 2, 9, 16}}, // the same: after all others
		{3, 5, []int{1, 4, 3, 2, 9, 16}},
		{4, 5, []int{3, 1, 4, 2, 9, 16}}, // the last already
		{16, 16, []int{3, 1, 4, 2, 9, 16}},
		{1, 9, []int{3, 4, 2, 9, 1, 16}}, // lower
		{3, 16, []int{1, 4, 2, 9, 16, 3}},
		{3, 6, []int{1, 4, 3, 2, 9, 16}}, // where there is none
		{9, 5, []int{3, 1, 4, 9, 2, 16}}, // higher
		{16, 9, []int{3, 1, 4, 2, 9, 16}},
		{16, 1, []int{16, 3, 1, 4, 2, 9}},
		{4, 4, []int{4, 3, 1, 2, 9, 16}},
	} {
		b := filled(t, entry{3, 5}, entry{1, 5}, entry{2, 9}, entry{16, 16}, entry{9, 9}, entry{4, 5})
		b.change(c.task, c.pri)
		b.expectAll(c.all...)
		if pri, ok := b.real.Pri(c.task); pri != c.pri || !ok {
			t.Errorf("P901: Pri(%d) is %d, %v, not %d", c.task, pri, ok, c.pri)
		}
	}
}

func TestEveryChange(t *testing.T) {
	for _, start := range some(t) {
		for task := 0; task <= 17; task++ {
			for pri := 0; pri <= 17; pri++ {
				b := start.twin()
				b.change(task, pri)
				b.change(task, pri)
			}
		}
	}
}

func TestRotate(t *testing.T) {
	b := filled(t, entry{3, 5}, entry{1, 5}, entry{2, 9}, entry{16, 16}, entry{4, 5}, entry{9, 9})
	b.rotate(5)
	b.expectAll(1, 4, 3, 2, 9, 16)
	b.rotate(9)
	b.expectAll(1, 4, 3, 9, 2, 16)
	b.rotate(16) // one alone
	b.rotate(1)  // none
	b.rotate(6)
	b.expectAll(1, 4, 3, 9, 2, 16)
	b.rotate(5)
	b.rotate(5) // the third time: as they stood
	b.expectAll(3, 1, 4, 9, 2, 16)
	b.add(5, 5) // behind the one that went round
	b.rotate(5)
	b.add(6, 5)
	b.expectAll(1, 4, 5, 3, 6, 9, 2, 16)
}

func TestRotateAsOftenAsThereAreTasks(t *testing.T) {
	for _, start := range some(t) {
		for pri := 1; pri <= 16; pri++ {
			b := start.twin()
			was := b.real.All()
			for range b.real.Row(pri) {
				b.rotate(pri)
			}
			b.expectAll(was...)
		}
	}
}

func TestTasksOutsideAreRefused(t *testing.T) {
	for _, b := range some(t) {
		was := b.real.All()
		for _, task := range outside {
			for _, pri := range []int{1, 5, 16} {
				if code := b.real.Add(task, pri); code != api.Par {
					t.Errorf("P901: Add(%d, %d) is %v", task, pri, code)
				}
				if b.real.Change(task, pri) {
					t.Errorf("P901: Change(%d, %d) is true", task, pri)
				}
			}
			if b.real.Remove(task) {
				t.Errorf("P901: Remove(%d) is true", task)
			}
			if pri, ok := b.real.Pri(task); pri != 0 || ok {
				t.Errorf("P901, P4: Pri(%d) is %d, %v", task, pri, ok)
			}
			b.expectAll(was...)
		}
		b.state()
	}
}

func TestPrioritiesOutsideAreRefused(t *testing.T) {
	for _, b := range some(t) {
		was := b.real.All()
		for _, pri := range outside {
			for task := 1; task <= 16; task++ { // there already, or not: Par comes first
				if code := b.real.Add(task, pri); code != api.Par {
					t.Errorf("P901, P6: Add(%d, %d) is %v", task, pri, code)
				}
				if b.real.Change(task, pri) {
					t.Errorf("P901: Change(%d, %d) is true", task, pri)
				}
			}
			if code := b.real.Rotate(pri); code != api.Par {
				t.Errorf("P901: Rotate(%d) is %v", pri, code)
			}
			if row := b.real.Row(pri); len(row) != 0 {
				t.Errorf("P901: Row(%d) is %v", pri, row)
			}
			b.expectAll(was...)
		}
		b.state()
	}
}

func TestBothOutsideAreRefused(t *testing.T) {
	for _, b := range some(t) {
		for _, task := range outside {
			for _, pri := range outside {
				if code := b.real.Add(task, pri); code != api.Par {
					t.Errorf("P901: Add(%d, %d) is %v", task, pri, code)
				}
				if b.real.Change(task, pri) {
					t.Errorf("P901: Change(%d, %d) is true", task, pri)
				}
			}
		}
		b.state()
	}
}

func TestATaskThatIsThereIsRefused(t *testing.T) {
	for _, b := range some(t) {
		for _, e := range slices.Clone(b.want) {
			for pri := 1; pri <= 16; pri++ { // its own among them
				if code := b.real.Add(e.task, pri); code != api.Obj {
					t.Errorf("P901: Add(%d, %d) is %v", e.task, pri, code)
				}
			}
			b.state()
		}
		for _, e := range slices.Clone(b.want) {
			b.change(e.task, 3)
			if code := b.real.Add(e.task, e.pri); code != api.Obj { // it was there under another priority
				t.Errorf("P901: Add(%d, %d) after Change is %v", e.task, e.pri, code)
			}
			b.state()
		}
	}
}

func TestATaskThatIsNotThere(t *testing.T) {
	b := filled(t, entry{3, 5}, entry{1, 5}, entry{2, 9})
	for task := 4; task <= 16; task++ { // 5 and 9, which are priorities, among them
		for pri := 1; pri <= 16; pri++ {
			b.change(task, pri)
		}
		b.remove(task)
	}
	b.remove(1)
	b.change(1, 5)
	b.expectAll(3, 2)
}

func TestTwinsGoTheirOwnWays(t *testing.T) {
	for _, b := range some(t) {
		twin := b.twin()
		third := twin.twin()
		for n := 1; n <= 16; n++ {
			b.rotate(n)
			twin.state()
			twin.change(n, 17-n)
			b.state()
			b.remove(n)
			twin.state()
			b.add(n, n/2+1)
			twin.state()
			twin.remove(17 - n)
			b.state()
			twin.add(17-n, 4)
			b.state()
			third.state()
		}
		for n := 1; n <= 16; n++ {
			b.remove(n)
		}
		twin.state()
		third.state()
		for n := 1; n <= 16; n++ {
			third.remove(n)
		}
		b.add(8, 8)
		third.state()
		twin.state()
	}
}

// spoil changes a list that was handed out, its unused capacity too.
func spoil(l []int) {
	l = l[:cap(l)]
	for i := range l {
		l[i] = -9
	}
}

func TestWhatRowAndAllReturnIsNewMemory(t *testing.T) {
	for _, b := range some(t) {
		for pri := 1; pri <= 16; pri++ {
			for _, call := range []func() []int{b.real.All, func() []int { return b.real.Row(pri) }} {
				one, other := call(), call()
				want := slices.Clone(other)
				spoil(one)
				_ = append(one[:0], -8, -8, -8)
				if !slices.Equal(other, want) {
					t.Errorf("P2: a change of one answer made another %v, not %v", other, want)
				}
				b.state()
			}
		}
	}
}

func TestWhatRowAndAllReturnIsNotKept(t *testing.T) {
	for _, b := range some(t) {
		var rows [17][]int
		var want [17][]int
		for pri := range rows {
			rows[pri] = b.real.Row(pri)
		}
		rows[0] = b.real.All()
		for pri := range rows {
			want[pri] = slices.Clone(rows[pri])
		}
		for n := 1; n <= 16; n++ {
			b.rotate(n)
			b.change(n, 17-n)
			b.remove(17 - n)
			b.add(17-n, 2)
		}
		for pri := range rows {
			if !slices.Equal(rows[pri], want[pri]) {
				t.Errorf("P2: a list that was handed out became %v, not %v", rows[pri], want[pri])
			}
		}
	}
}

// steps is a row of numbers that is the same in each run.
type steps uint64

func (s *steps) below(n int) int {
	*s = *s*6364136223846793005 + 1442695040888963407
	return int((uint64(*s) >> 33) % uint64(n))
}

// number is mostly inside, at times a little or far outside.
func (s *steps) number(spread int) int {
	switch s.below(20) {
	case 0:
		return outside[s.below(len(outside))]
	case 1:
		return s.below(18)
	}
	return 1 + s.below(spread)
}

func TestManyCallsAsTheModel(t *testing.T) {
	for seed := range 24 {
		s := steps(seed)
		spread := []int{1, 2, 3, 5, 9, 16}[seed%6] // of priorities: the fewer, the longer the rows
		adds := 2 + s.below(6)                     // of ten calls; the more, the fuller
		b := filled(t)
		for step := range 800 {
			switch k := s.below(10); {
			case k < adds:
				b.add(s.number(16), s.number(spread))
			case k == 7:
				b.rotate(s.number(spread))
			case k == 8:
				b.change(s.number(16), s.number(spread))
			case s.below(50) == 0:
				b = b.twin()
			default:
				b.remove(s.number(16))
			}
			if t.Failed() {
				t.Fatalf("P901: seed %d, step %d", seed, step)
			}
		}
	}
}

func TestTheSameCallsAnswerTheSame(t *testing.T) {
	run := func() []int {
		var told []int
		s := steps(5)
		q := New()
		for range 500 {
			switch s.below(4) {
			case 0, 1:
				told = append(told, int(q.Add(s.below(18), s.below(6))))
			case 2:
				q.Change(s.below(18), s.below(6))
			case 3:
				q.Rotate(s.below(6))
				q.Remove(s.below(18))
			}
			told = append(told, q.All()...)
		}
		return told
	}
	if !slices.Equal(run(), run()) {
		t.Error("P3: the same calls answer otherwise")
	}
}
