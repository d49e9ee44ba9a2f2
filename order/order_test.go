package order

import (
	"cmp"
	"math"
	"slices"
	"testing"

	"detent/api"
)

// line is all that Line promises; a Queue has it too, by promotion.
type line interface {
	Has(id int) bool
	Len() int
	Row() []Item
	First() (Item, bool)
	Remove(id int) bool
	Pri(id int) (int, bool)
}

var bothOrders = []bool{false, true}

// farNumbers are neither IDs nor priorities.
var farNumbers = []int{math.MinInt, math.MinInt + 1, -1 << 32, 1 - 1<<32, -256, -16, -2, -1, 0, 17, 18, 32, 64, 256, 257, 1 << 31, 1 << 32, 1<<32 + 1, math.MaxInt - 1, math.MaxInt}

// filled is a new queue to which the items were added, all of which must be taken.
func filled(t *testing.T, byPri bool, items ...Item) *Queue {
	t.Helper()
	q := New(byPri)
	if q == nil {
		t.Fatalf("P401: New(%v) is nil", byPri)
	}
	for _, x := range items {
		expectAdd(t, q, x.ID, x.Pri, api.OK)
	}
	return q
}

// expect asks for all that can be observed of q without changing it, through Queue and through its Line.
func expect(t *testing.T, q *Queue, want ...Item) {
	t.Helper()
	expectLine(t, q, want)
	expectLine(t, &q.Line, want)
}

func expectLine(t *testing.T, l line, want []Item) {
	t.Helper()
	if row := l.Row(); !slices.Equal(row, want) {
		t.Errorf("P401: Row is %v, not %v", row, want)
	}
	if n := l.Len(); n != len(want) {
		t.Errorf("P401: Len is %d, not %d", n, len(want))
	}
	var first Item
	if len(want) > 0 {
		first = want[0]
	}
	if x, ok := l.First(); ok != (len(want) > 0) || x != first {
		t.Errorf("P401, P4: First is %v, %v, of %v", x, ok, want)
	}
	for id := -1; id <= api.MaxTasks+2; id++ {
		at := slices.IndexFunc(want, func(x Item) bool { return x.ID == id })
		pri := 0
		if at >= 0 {
			pri = want[at].Pri
		}
		if l.Has(id) != (at >= 0) {
			t.Errorf("P401: Has(%d) is %v, of %v", id, at < 0, want)
		}
		if p, ok := l.Pri(id); ok != (at >= 0) || p != pri {
			t.Errorf("P401, P4: Pri(%d) is %d, %v, of %v", id, p, ok, want)
		}
	}
}

func expectAdd(t *testing.T, q *Queue, id, pri int, want api.Code) {
	t.Helper()
	if code := q.Add(id, pri); code != want {
		t.Errorf("P401: Add(%d, %d) is %v, not %v", id, pri, code, want)
	}
}

func expectChange(t *testing.T, q *Queue, id, pri int, want bool) {
	t.Helper()
	if ok := q.Change(id, pri); ok != want {
		t.Errorf("P401: Change(%d, %d) is %v", id, pri, ok)
	}
}

func expectRemove(t *testing.T, l line, id int, want bool) {
	t.Helper()
	if ok := l.Remove(id); ok != want {
		t.Errorf("P401: Remove(%d) is %v", id, ok)
	}
}

func expectTake(t *testing.T, q *Queue, want Item, there bool) {
	t.Helper()
	if x, ok := q.Take(); ok != there || x != want {
		t.Errorf("P401, P4: Take is %v, %v, not %v, %v", x, ok, want, there)
	}
}

// sorted is what a queue by priority makes of items added in this order.
func sorted(items ...Item) []Item {
	row := slices.Clone(items)
	slices.SortStableFunc(row, func(a, b Item) int { return cmp.Compare(a.Pri, b.Pri) })
	return row
}

func inOrder(byPri bool, items ...Item) []Item {
	if byPri {
		return sorted(items...)
	}
	return items
}

var example = []Item{{3, 5}, {1, 2}, {4, 5}, {16, 1}, {2, 2}}

func TestTheExample(t *testing.T) {
	expect(t, filled(t, false, example...), Item{3, 5}, Item{1, 2}, Item{4, 5}, Item{16, 1}, Item{2, 2})
	expect(t, filled(t, true, example...), Item{16, 1}, Item{1, 2}, Item{2, 2}, Item{3, 5}, Item{4, 5})
}

func TestAZeroLineIsEmpty(t *testing.T) {
	var l Line
	expectLine(t, &l, nil)
	for _, id := range append([]int{1, 2, 15, 16}, farNumbers...) {
		expectRemove(t, &l, id, false)
	}
	expectLine(t, &l, nil)
}

func TestAZeroQueueIsInTheOrderOfAdding(t *testing.T) {
	var q Queue
	expect(t, &q)
	expectTake(t, &q, Item{}, false)
	expectChange(t, &q, 1, 1, false)
	expect(t, q.Twin())
	for _, x := range example {
		expectAdd(t, &q, x.ID, x.Pri, api.OK)
	}
	expect(t, &q, example...)
}

func TestNewIsEmpty(t *testing.T) {
	for _, byPri := range bothOrders {
		q := filled(t, byPri)
		expect(t, q)
		expectTake(t, q, Item{}, false)
		for _, id := range append([]int{1, 2, 15, 16}, farNumbers...) {
			expectRemove(t, q, id, false)
			expectChange(t, q, id, 1, false)
			expectChange(t, q, id, id, false)
		}
		expect(t, q)
	}
}

func TestNewIsNotShared(t *testing.T) {
	for _, byPri := range bothOrders {
		a, b := New(byPri), New(byPri)
		expectAdd(t, a, 2, 2, api.OK)
		expect(t, b)
		expectAdd(t, b, 1, 1, api.OK)
		expect(t, a, Item{2, 2})
		expectTake(t, b, Item{1, 1}, true)
		expect(t, a, Item{2, 2})
	}
}

func TestAddInEachOrder(t *testing.T) {
	for _, items := range [][]Item{
		{{1, 1}},
		{{16, 16}},
		{{1, 16}, {16, 1}},
		{{16, 1}, {1, 16}},
		{{5, 7}, {4, 7}, {3, 7}}, // equal ones: not by ID
		{{3, 7}, {4, 7}, {5, 7}},
		{{1, 3}, {2, 2}, {3, 1}},
		{{1, 1}, {2, 2}, {3, 3}},
		{{9, 8}, {8, 9}, {7, 8}, {6, 9}, {5, 7}, {4, 8}, {3, 10}, {2, 7}},
	} {
		for _, byPri := range bothOrders {
			q := filled(t, byPri)
			for i, x := range items {
				expectAdd(t, q, x.ID, x.Pri, api.OK)
				expect(t, q, inOrder(byPri, items[:i+1]...)...)
			}
		}
	}
}

// allTasks is an item for each ID, by the priority that pri gives it.
func allTasks(pri func(id int) int) []Item {
	var items []Item
	for id := 1; id <= api.MaxTasks; id++ {
		items = append(items, Item{id, pri(id)})
	}
	return items
}

func TestAllTasks(t *testing.T) {
	for _, pri := range []func(id int) int{
		func(id int) int { return id },
		func(id int) int { return 17 - id },
		func(id int) int { return 9 },
		func(id int) int { return 1 + id%3 },
		func(id int) int { return 1 + id*7%16 },
	} {
		for _, byPri := range bothOrders {
			for _, backwards := range []bool{false, true} {
				items := allTasks(pri)
				if backwards {
					slices.Reverse(items)
				}
				q := filled(t, byPri, items...)
				want := inOrder(byPri, items...)
				expect(t, q, want...)
				for id := 1; id <= api.MaxTasks; id++ {
					expectAdd(t, q, id, 1, api.Obj)
					expectAdd(t, q, id, 17, api.Par)
				}
				expectAdd(t, q, 17, 1, api.Par)
				expectAdd(t, q, 0, 1, api.Par)
				expect(t, q, want...)
				for i, x := range want {
					expectTake(t, q, x, true)
					expect(t, q, want[i+1:]...)
				}
				expectTake(t, q, Item{}, false)
				expect(t, q)
			}
		}
	}
}

func TestAddRefusesWhatIsNotPermitted(t *testing.T) {
	for _, byPri := range bothOrders {
		q := filled(t, byPri, example...)
		want := inOrder(byPri, example...)
		for _, bad := range farNumbers {
			for _, other := range append([]int{1, 2, 3, 5, 15, 16}, farNumbers...) {
				expectAdd(t, q, bad, other, api.Par)
				expectAdd(t, q, other, bad, api.Par) // also for an ID that is there: Par comes before Obj
			}
		}
		expect(t, q, want...)
	}
}

func TestAddRefusesAnIDThatIsThere(t *testing.T) {
	for _, byPri := range bothOrders {
		q := filled(t, byPri, example...)
		want := inOrder(byPri, example...)
		for _, x := range example {
			for pri := 1; pri <= api.MaxPri; pri++ {
				expectAdd(t, q, x.ID, pri, api.Obj)
			}
			expect(t, q, want...)
		}
		expectAdd(t, q, 5, 16, api.OK)
		expect(t, q, append(want, Item{5, 16})...)
	}
}

func TestEachIDAndEachPriorityIsTaken(t *testing.T) {
	for _, byPri := range bothOrders {
		for id := 1; id <= 16; id++ {
			for pri := 1; pri <= 16; pri++ {
				q := filled(t, byPri, Item{id, pri})
				expect(t, q, Item{id, pri})
				expectTake(t, q, Item{id, pri}, true)
				expect(t, q)
			}
		}
	}
}

func TestRemoveFromEachPlace(t *testing.T) {
	for _, byPri := range bothOrders {
		items := []Item{{7, 3}, {2, 3}, {9, 3}, {1, 3}}
		for i, x := range items {
			q := filled(t, byPri, items...)
			rest := slices.Delete(slices.Clone(items), i, i+1)
			expectRemove(t, q, x.ID, true)
			expect(t, q, rest...)
			expectRemove(t, q, x.ID, false)
			expectChange(t, q, x.ID, 1, false)
			expect(t, q, rest...)
			expectAdd(t, q, x.ID, x.Pri, api.OK) // as one that came last
			expect(t, q, append(rest, x)...)
		}
	}
}

func TestRemoveTheOnlyItem(t *testing.T) {
	for _, byPri := range bothOrders {
		q := filled(t, byPri)
		for _, x := range []Item{{1, 16}, {16, 1}, {1, 1}, {16, 16}} {
			expectAdd(t, q, x.ID, x.Pri, api.OK)
			expect(t, q, x)
			expectRemove(t, q, x.ID, true)
			expect(t, q)
			expectRemove(t, q, x.ID, false)
			expectAdd(t, q, x.ID, x.Pri, api.OK)
			expect(t, q, x)
			expectRemove(t, &q.Line, x.ID, true) // the Line is the queue's own
			expect(t, q)
		}
	}
}

func TestRemoveWhatIsNotThere(t *testing.T) {
	for _, byPri := range bothOrders {
		q := filled(t, byPri, example...)
		for _, id := range append([]int{5, 6, 15}, farNumbers...) {
			expectRemove(t, q, id, false)
			expectRemove(t, &q.Line, id, false)
		}
		expect(t, q, inOrder(byPri, example...)...)
	}
}

func TestAddedAgainWithAnotherPriority(t *testing.T) {
	q := filled(t, true, example...) // 16, 1, 2, 3, 4
	expectRemove(t, q, 16, true)
	expectAdd(t, q, 16, 5, api.OK)
	expect(t, q, Item{1, 2}, Item{2, 2}, Item{3, 5}, Item{4, 5}, Item{16, 5})
	expectRemove(t, q, 4, true)
	expectAdd(t, q, 4, 2, api.OK)
	expect(t, q, Item{1, 2}, Item{2, 2}, Item{4, 2}, Item{3, 5}, Item{16, 5})
	expectTake(t, q, Item{1, 2}, true)
	expectAdd(t, q, 1, 2, api.OK)
	expect(t, q, Item{2, 2}, Item{4, 2}, Item{1, 2}, Item{3, 5}, Item{16, 5})
}

func TestChangeKeepsThePlace(t *testing.T) {
	for i, x := range example {
		for pri := 1; pri <= api.MaxPri; pri++ {
			q := filled(t, false, example...)
			want := slices.Clone(example)
			want[i].Pri = pri
			expectChange(t, q, x.ID, pri, true)
			expect(t, q, want...)
		}
	}
}

func TestChangeByPriority(t *testing.T) {
	// Several have the priorities 3 and 5, so that 'after all others' differs from 'before them' and from 'as it was'.
	items := []Item{{1, 3}, {2, 3}, {3, 3}, {4, 5}, {5, 5}, {6, 7}}
	for i, x := range items {
		for pri := 1; pri <= api.MaxPri; pri++ {
			q := filled(t, true, items...)
			rest := slices.Delete(slices.Clone(items), i, i+1)
			expectChange(t, q, x.ID, pri, true)
			expect(t, q, sorted(append(rest, Item{x.ID, pri})...)...)
		}
	}
}

func TestChangeByPriorityByHand(t *testing.T) {
	q := filled(t, true, example...) // 16, 1, 2, 3, 4
	expectChange(t, q, 1, 2, true)   // the same
	expect(t, q, Item{16, 1}, Item{2, 2}, Item{1, 2}, Item{3, 5}, Item{4, 5})
	expectChange(t, q, 1, 2, true) // the last of its equals already
	expect(t, q, Item{16, 1}, Item{2, 2}, Item{1, 2}, Item{3, 5}, Item{4, 5})
	expectChange(t, q, 4, 1, true) // higher
	expect(t, q, Item{16, 1}, Item{4, 1}, Item{2, 2}, Item{1, 2}, Item{3, 5})
	expectChange(t, q, 16, 5, true) // lower
	expect(t, q, Item{4, 1}, Item{2, 2}, Item{1, 2}, Item{3, 5}, Item{16, 5})
	expectChange(t, q, 2, 16, true)
	expect(t, q, Item{4, 1}, Item{1, 2}, Item{3, 5}, Item{16, 5}, Item{2, 16})
	expectChange(t, q, 2, 16, true) // the last, alone with its priority
	expect(t, q, Item{4, 1}, Item{1, 2}, Item{3, 5}, Item{16, 5}, Item{2, 16})
	expectChange(t, q, 4, 1, true) // the first, alone with its priority
	expect(t, q, Item{4, 1}, Item{1, 2}, Item{3, 5}, Item{16, 5}, Item{2, 16})
}

func TestChangeOfTheOnlyItem(t *testing.T) {
	for _, byPri := range bothOrders {
		q := filled(t, byPri, Item{16, 8})
		for _, pri := range []int{1, 16, 16, 1, 9} {
			expectChange(t, q, 16, pri, true)
			expect(t, q, Item{16, pri})
		}
	}
}

func TestChangeAmongAllTasks(t *testing.T) {
	items := allTasks(func(id int) int { return 4 })
	for _, x := range items {
		q := filled(t, true, items...)
		rest := slices.DeleteFunc(slices.Clone(items), func(y Item) bool { return y == x })
		expectChange(t, q, x.ID, 4, true)
		expect(t, q, append(slices.Clone(rest), x)...)
		expectChange(t, q, x.ID, 1, true)
		expect(t, q, append([]Item{{x.ID, 1}}, rest...)...)
		expectChange(t, q, x.ID, 16, true)
		expect(t, q, append(slices.Clone(rest), Item{x.ID, 16})...)
	}
}

func TestChangeRefuses(t *testing.T) {
	for _, byPri := range bothOrders {
		q := filled(t, byPri, example...)
		want := inOrder(byPri, example...)
		for _, bad := range farNumbers {
			for _, x := range example {
				expectChange(t, q, x.ID, bad, false)
				expectChange(t, q, bad, x.Pri, false)
			}
			expectChange(t, q, bad, bad, false)
			expectChange(t, q, 5, bad, false)
		}
		for _, id := range []int{5, 6, 15} {
			for pri := 1; pri <= api.MaxPri; pri++ {
				expectChange(t, q, id, pri, false)
			}
		}
		expect(t, q, want...)
	}
}

func TestQuestionsOfFarNumbers(t *testing.T) {
	for _, byPri := range bothOrders {
		for _, items := range [][]Item{nil, example, allTasks(func(id int) int { return id })} {
			q := filled(t, byPri, items...)
			for _, id := range farNumbers {
				if q.Has(id) || q.Line.Has(id) {
					t.Errorf("P401: Has(%d) is true", id)
				}
				if p, ok := q.Pri(id); ok || p != 0 {
					t.Errorf("P401, P4: Pri(%d) is %d, %v", id, p, ok)
				}
			}
			expect(t, q, inOrder(byPri, items...)...)
		}
	}
}

func TestTakeUntilNoneIsLeft(t *testing.T) {
	for _, byPri := range bothOrders {
		q := filled(t, byPri, example...)
		for _, x := range inOrder(byPri, example...) {
			expectTake(t, q, x, true)
			if q.Has(x.ID) {
				t.Errorf("P401: Has(%d) after it was taken", x.ID)
			}
		}
		for range 3 {
			expectTake(t, q, Item{}, false)
			expect(t, q)
		}
		expectAdd(t, q, 4, 16, api.OK)
		expectAdd(t, q, 3, 16, api.OK)
		expect(t, q, Item{4, 16}, Item{3, 16})
	}
}

func TestRowIsNewMemory(t *testing.T) {
	for _, byPri := range bothOrders {
		q := filled(t, byPri, example...)
		want := inOrder(byPri, example...)
		row, other := q.Row(), q.Row()
		clear(row[:cap(row)])
		if !slices.Equal(other, want) {
			t.Errorf("P2: two rows share memory: the other became %v", other)
		}
		_ = append(row[:0], Item{9, 9})
		expect(t, q, want...)
		clear(row[:cap(row)])
		expectChange(t, q, 3, 9, true)
		expectRemove(t, q, 1, true)
		expectAdd(t, q, 7, 7, api.OK)
		expectTake(t, q, q.Row()[0], true)
		if slices.ContainsFunc(row[:cap(row)], func(x Item) bool { return x != Item{} }) {
			t.Errorf("P2: a row was kept: it became %v", row)
		}
		if !slices.Equal(other, want) {
			t.Errorf("P2: a row follows the queue: it became %v", other)
		}
	}
}

func TestATwinGoesItsOwnWay(t *testing.T) {
	for _, byPri := range bothOrders {
		q := filled(t, byPri, example...)
		want := inOrder(byPri, example...)
		for _, change := range []func(q *Queue){
			func(q *Queue) { q.Add(5, 1) },
			func(q *Queue) { q.Remove(4) },
			func(q *Queue) { q.Line.Remove(3) },
			func(q *Queue) { q.Change(3, 1) },
			func(q *Queue) { q.Change(1, 2) },
			func(q *Queue) { q.Take() },
			func(q *Queue) {
				for range 5 {
					q.Take()
				}
				q.Add(9, 9)
			},
		} {
			w := q.Twin()
			if w == q {
				t.Fatal("P401, P7: a Twin is the queue itself")
			}
			expect(t, w, want...)
			change(w)
			expect(t, q, want...)
			first, second := q.Twin(), q.Twin()
			change(first)
			expect(t, second, want...)
		}
	}
}

func TestATwinIsLeftAlone(t *testing.T) {
	for _, byPri := range bothOrders {
		q := filled(t, byPri, example...)
		want := inOrder(byPri, example...)
		w := q.Twin()
		expectAdd(t, q, 5, 1, api.OK)
		expectChange(t, q, 3, 1, true)
		expectRemove(t, q, 4, true)
		expect(t, w, want...)
		for range 5 {
			q.Take()
		}
		expect(t, q)
		expect(t, w, want...)
	}
}

func TestATwinKeepsItsOrder(t *testing.T) {
	for _, byPri := range bothOrders {
		q := filled(t, byPri)
		items := []Item{{9, 9}, {8, 2}, {7, 9}, {6, 1}}
		for i, x := range items {
			q = q.Twin()
			expectAdd(t, q, x.ID, x.Pri, api.OK)
			expect(t, q, inOrder(byPri, items[:i+1]...)...)
		}
		q = q.Twin()
		expectChange(t, q, 9, 1, true)
		if byPri {
			expect(t, q, Item{6, 1}, Item{9, 1}, Item{8, 2}, Item{7, 9})
		} else {
			expect(t, q, Item{9, 1}, Item{8, 2}, Item{7, 9}, Item{6, 1})
		}
	}
}

func TestACopiedLineGoesItsOwnWay(t *testing.T) {
	for _, byPri := range bothOrders {
		q := filled(t, byPri, example...)
		want := inOrder(byPri, example...)
		l := q.Line
		expectRemove(t, &l, 1, true)
		expect(t, q, want...)
		l = q.Line
		expectChange(t, q, 4, 1, true)
		expectRemove(t, q, 3, true)
		expectLine(t, &l, want)
	}
}

// steps is a row of numbers that is the same in each run.
type steps uint64

func (s *steps) below(n int) int {
	*s = *s*6364136223846793005 + 1442695040888963407
	return int((uint64(*s) >> 33) % uint64(n))
}

// model is the queue as the chapter tells it: items in the order in which they came, sorted only where they are shown.
type model struct {
	byPri bool
	came  []Item
}

func (m *model) row() []Item { return inOrder(m.byPri, m.came...) }

func (m *model) at(id int) int {
	return slices.IndexFunc(m.came, func(x Item) bool { return x.ID == id })
}

func (m *model) add(id, pri int) api.Code {
	if id < 1 || id > 16 || pri < 1 || pri > 16 {
		return api.Par
	}
	if m.at(id) >= 0 {
		return api.Obj
	}
	m.came = append(m.came, Item{id, pri})
	return api.OK
}

func (m *model) remove(id int) bool {
	at := m.at(id)
	if at >= 0 {
		m.came = slices.Delete(m.came, at, at+1)
	}
	return at >= 0
}

func (m *model) change(id, pri int) bool {
	at := m.at(id)
	if at < 0 || pri < 1 || pri > 16 {
		return false
	}
	if m.byPri {
		m.remove(id)
		m.came = append(m.came, Item{id, pri})
	} else {
		m.came[at].Pri = pri
	}
	return true
}

func TestManyCalls(t *testing.T) {
	for _, byPri := range bothOrders {
		for seed := range 20 {
			s := steps(seed)
			q, m := filled(t, byPri), &model{byPri: byPri}
			for range 1000 {
				oneCall(t, &s, q, m)
				if s.below(20) == 0 {
					q = q.Twin()
				}
				expect(t, q, m.row()...)
				if t.Failed() {
					t.Fatalf("byPri %v, seed %d", byPri, seed)
				}
			}
		}
	}
}

func oneCall(t *testing.T, s *steps, q *Queue, m *model) {
	t.Helper()
	id, pri := s.below(18), s.below(6)
	if s.below(4) == 0 {
		pri = s.below(18)
	}
	switch s.below(8) {
	case 0, 1, 2, 3:
		expectAdd(t, q, id, pri, m.add(id, pri))
	case 4, 5:
		expectChange(t, q, id, pri, m.change(id, pri))
	case 6:
		expectRemove(t, q, id, m.remove(id))
	default:
		var want Item
		row := m.row()
		if len(row) > 0 {
			want = row[0]
			m.remove(want.ID)
		}
		expectTake(t, q, want, len(row) > 0)
	}
}
