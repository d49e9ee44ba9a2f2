package list

import (
	"math"
	"slices"
	"testing"

	"detent/api"
)

// made is new lists, of numbers of nodes and heads that must be taken.
func made(t *testing.T, nodes, heads int) *Lists {
	t.Helper()
	l, code := New(nodes, heads)
	if code != api.OK || l == nil {
		t.Fatalf("P301: New(%d, %d) is %v, %v", nodes, heads, l, code)
	}
	return l
}

// rows is the nodes of each head, in order.
type rows [][]int

// filled is new lists with the given rows, added by Back.
func filled(t *testing.T, nodes int, want rows) *Lists {
	t.Helper()
	l := made(t, nodes, len(want))
	for h, row := range want {
		if code := l.Back(h, row...); code != api.OK {
			t.Fatalf("P301: Back(%d, %v) is %v", h, row, code)
		}
	}
	expect(t, l, nodes, want)
	return l
}

// expect asks for all that can be observed of l: each list, each node, and the numbers one beyond either end.
func expect(t *testing.T, l *Lists, nodes int, want rows) {
	t.Helper()
	in := map[int]int{}
	for h, row := range want {
		expectRow(t, l, h, row)
		for _, n := range row {
			in[n] = h
		}
	}
	for n := range nodes {
		h, ok := l.Of(n)
		want, listed := in[n]
		if ok != listed || h != want {
			t.Errorf("P301: Of(%d) is %d, %v, not %d, %v", n, h, ok, want, listed)
		}
		if next, ok := l.Next(n); !listed && (ok || next != 0) {
			t.Errorf("P301, P4: Next(%d) of a node in no list is %d, %v", n, next, ok)
		}
	}
	expectNoNode(t, l, -1)
	expectNoNode(t, l, nodes)
	expectNoHead(t, l, -1)
	expectNoHead(t, l, len(want))
}

func expectRow(t *testing.T, l *Lists, head int, want []int) {
	t.Helper()
	if got := l.Row(head); !slices.Equal(got, want) {
		t.Errorf("P301: Row(%d) is %v, not %v", head, got, want)
	}
	if got := l.Len(head); got != len(want) {
		t.Errorf("P301: Len(%d) is %d, not %d", head, got, len(want))
	}
	n, ok := l.First(head)
	for i, w := range want {
		if !ok || n != w {
			t.Errorf("P301: node %d of list %d is %d, %v, not %d", i, head, n, ok, w)
		}
		n, ok = l.Next(w)
	}
	if ok || n != 0 {
		t.Errorf("P301, P4: behind the last node of list %d is %d, %v", head, n, ok)
	}
}

func expectNoNode(t *testing.T, l *Lists, n int) {
	t.Helper()
	if next, ok := l.Next(n); ok || next != 0 {
		t.Errorf("P301, P4: Next(%d) of a node that does not exist is %d, %v", n, next, ok)
	}
	if h, ok := l.Of(n); ok || h != 0 {
		t.Errorf("P301, P4: Of(%d) of a node that does not exist is %d, %v", n, h, ok)
	}
}

func expectNoHead(t *testing.T, l *Lists, h int) {
	t.Helper()
	if n, ok := l.First(h); ok || n != 0 {
		t.Errorf("P301, P4: First(%d) of a head that does not exist is %d, %v", h, n, ok)
	}
	if row := l.Row(h); len(row) != 0 {
		t.Errorf("P301: Row(%d) of a head that does not exist is %v", h, row)
	}
	if c := l.Len(h); c != 0 {
		t.Errorf("P301: Len(%d) of a head that does not exist is %d", h, c)
	}
}

// expectCode is for calls whose arguments stand in the text that names them.
func expectCode(t *testing.T, call string, got, want api.Code) {
	t.Helper()
	if got != want {
		t.Errorf("P301: %s is %v, not %v", call, got, want)
	}
}

// farNumbers are neither nodes nor heads of any lists.
var farNumbers = []int{math.MinInt, math.MinInt + 1, -1 << 32, -maxNodes, -2, -1, maxNodes + maxHeads, 1 << 31, 1 << 32, 1<<32 + 1, math.MaxInt - 1, math.MaxInt}

func TestNewIsAllEmpty(t *testing.T) {
	for _, nodes := range []int{1, 2, 3, 64, 65, 1023, 1024} {
		for _, heads := range []int{1, 2, 63, 64} {
			expect(t, made(t, nodes, heads), nodes, make(rows, heads))
		}
	}
}

func TestNewRefusesNumbersBeyond(t *testing.T) {
	badNodes := []int{math.MinInt, -1024, -1, 0, 1025, 1026, 1 << 32, 1<<32 + 1, math.MaxInt}
	badHeads := []int{math.MinInt, -64, -1, 0, 65, 66, 1024, 1 << 32, 1<<32 + 1, math.MaxInt}
	refused := func(nodes, heads int) {
		if l, code := New(nodes, heads); l != nil || code != api.Par {
			t.Errorf("P301, P4: New(%d, %d) is %v, %v", nodes, heads, l, code)
		}
	}
	for _, nodes := range badNodes {
		refused(nodes, 1)
		refused(nodes, 64)
		for _, heads := range badHeads {
			refused(nodes, heads)
		}
	}
	for _, heads := range badHeads {
		refused(1, heads)
		refused(1024, heads)
	}
}

func TestNewIsNotShared(t *testing.T) {
	a, b := made(t, 4, 2), made(t, 4, 2)
	a.Back(1, 2, 3)
	expect(t, b, 4, rows{{}, {}})
	b.Back(0, 3)
	expect(t, a, 4, rows{{}, {2, 3}})
}

func TestTheExample(t *testing.T) {
	l := made(t, 8, 1)
	expectCode(t, "Back(0, 3, 1, 4)", l.Back(0, 3, 1, 4), api.OK)
	expectCode(t, "Front(0, 0)", l.Front(0, 0), api.OK)
	expectCode(t, "Before(2, 1)", l.Before(2, 1), api.OK)
	expectCode(t, "Before(7, 0)", l.Before(7, 0), api.OK)
	expectCode(t, "Remove(4)", l.Remove(4), api.OK)
	expectCode(t, "Back(0, 5, 5)", l.Back(0, 5, 5), api.Obj)
	expect(t, l, 8, rows{{7, 0, 3, 2, 1}})
}

func TestOneNodeAndOneHead(t *testing.T) {
	l := made(t, 1, 1)
	for range 2 {
		expectCode(t, "Remove(0) from none", l.Remove(0), api.Obj)
		expectCode(t, "Before(0, 0) in none", l.Before(0, 0), api.Obj)
		expectCode(t, "Back(0, 0)", l.Back(0, 0), api.OK)
		expect(t, l, 1, rows{{0}})
		expectCode(t, "Back(0, 0) again", l.Back(0, 0), api.Obj)
		expectCode(t, "Front(0, 0) again", l.Front(0, 0), api.Obj)
		expectCode(t, "Before(0, 0)", l.Before(0, 0), api.Obj)
		expect(t, l, 1, rows{{0}})
		expectCode(t, "Remove(0)", l.Remove(0), api.OK)
		expect(t, l, 1, rows{{}})
		expectCode(t, "Front(0, 0)", l.Front(0, 0), api.OK)
		expect(t, l, 1, rows{{0}})
		expectCode(t, "Remove(0)", l.Remove(0), api.OK)
		expect(t, l, 1, rows{{}})
	}
}

func TestTheGreatestLists(t *testing.T) {
	l := made(t, 1024, 64)
	all := make([]int, 1024)
	for i := range all {
		all[i] = 1023 - i
	}
	want := make(rows, 64)
	expectCode(t, "Back(63) of all nodes", l.Back(63, all...), api.OK)
	want[63] = all
	expect(t, l, 1024, want)
	expectCode(t, "Back(0) of all nodes again", l.Back(0, all...), api.Obj)
	for n := range 1024 {
		expectCode(t, "Remove of a node", l.Remove(n), api.OK)
	}
	want = make(rows, 64)
	expect(t, l, 1024, want)
	for n := range 1024 {
		expectCode(t, "Front of a node", l.Front(n%64, n), api.OK)
		want[n%64] = slices.Insert(want[n%64], 0, n)
	}
	expect(t, l, 1024, want)
}

func TestBackAddsAtTheEnd(t *testing.T) {
	l := made(t, 8, 2)
	expectCode(t, "Back(0) of none", l.Back(0), api.OK)
	expect(t, l, 8, rows{{}, {}})
	expectCode(t, "Back(0, 7)", l.Back(0, 7), api.OK)
	expect(t, l, 8, rows{{7}, {}})
	expectCode(t, "Back(0, 0, 5)", l.Back(0, 0, 5), api.OK)
	expect(t, l, 8, rows{{7, 0, 5}, {}})
	expectCode(t, "Back(1, 6, 1, 2)", l.Back(1, 6, 1, 2), api.OK)
	expect(t, l, 8, rows{{7, 0, 5}, {6, 1, 2}})
	expectCode(t, "Back(0) of none", l.Back(0), api.OK)
	expectCode(t, "Back(0) of a nil slice", l.Back(0, []int(nil)...), api.OK)
	expectCode(t, "Back(0) of an empty slice", l.Back(0, []int{}...), api.OK)
	expect(t, l, 8, rows{{7, 0, 5}, {6, 1, 2}})
	expectCode(t, "Back(0, 4, 3)", l.Back(0, 4, 3), api.OK)
	expect(t, l, 8, rows{{7, 0, 5, 4, 3}, {6, 1, 2}})
}

func TestBackRefusesNumbersThatDoNotExist(t *testing.T) {
	want := rows{{3, 1}, {4}}
	l := filled(t, 8, want)
	for _, bad := range append([]int{8, 9, 10}, farNumbers...) {
		for _, nodes := range [][]int{{bad}, {bad, 5}, {5, bad}, {5, 6, bad, 7}, {bad, bad}, {3, bad}, {bad, 3}, {4, bad}, {bad, 4}, {5, 5, bad}, {bad, 5, 5}, {5, bad, 5}, {3, 3, 4, 4, bad}} {
			if code := l.Back(0, nodes...); code != api.Par {
				t.Errorf("P301: Back(0, %v) is %v", nodes, code)
			}
			expect(t, l, 8, want)
		}
	}
	for _, bad := range append([]int{2, 3, 8, 9, 10}, farNumbers...) {
		for _, nodes := range [][]int{{}, {5}, {5, 6}, {3}, {5, 5}, {8}, {-1, 3}} {
			if code := l.Back(bad, nodes...); code != api.Par {
				t.Errorf("P301: Back(%d, %v) is %v", bad, nodes, code)
			}
			expect(t, l, 8, want)
		}
	}
}

func TestBackRefusesNodesInAList(t *testing.T) {
	want := rows{{3, 1, 2}, {4}, {}}
	l := filled(t, 8, want)
	for h := range want {
		for _, nodes := range [][]int{
			{3}, {1}, {2}, {4}, // in this list, or in another one
			{5, 3}, {3, 5}, {5, 6, 4}, {5, 2, 6}, {3, 1, 2},
			{5, 5}, {5, 6, 5}, {5, 6, 6}, {0, 5, 0}, {7, 7, 7}, {3, 3}, {5, 5, 3}, {3, 5, 5},
		} {
			if code := l.Back(h, nodes...); code != api.Obj {
				t.Errorf("P301: Back(%d, %v) is %v", h, nodes, code)
			}
			expect(t, l, 8, want)
		}
	}
	expectCode(t, "Back(2, 5, 0, 7, 6), all refused before", l.Back(2, 5, 0, 7, 6), api.OK)
	expect(t, l, 8, rows{{3, 1, 2}, {4}, {5, 0, 7, 6}})
}

func TestBackOfMoreThanAllNodes(t *testing.T) {
	l := made(t, 4, 1)
	expectCode(t, "Back(0, 0, 1, 2, 3, 0)", l.Back(0, 0, 1, 2, 3, 0), api.Obj)
	expectCode(t, "Back(0, 0, 1, 2, 3, 4)", l.Back(0, 0, 1, 2, 3, 4), api.Par)
	expectCode(t, "Back of 5000 zeros", l.Back(0, make([]int, 5000)...), api.Obj)
	expectCode(t, "Back of 5000 zeros and a bad one", l.Back(0, append(make([]int, 5000), -1)...), api.Par)
	expect(t, l, 4, rows{{}})
	expectCode(t, "Back(0, 0, 1, 2, 3)", l.Back(0, 0, 1, 2, 3), api.OK)
	expect(t, l, 4, rows{{0, 1, 2, 3}})
}

func TestBackLeavesItsNodes(t *testing.T) {
	l := made(t, 8, 2)
	whole := []int{3, 1, 4, 7, 7}
	expectCode(t, "Back of a part", l.Back(0, whole[:3]...), api.OK)
	expectCode(t, "Back of it again", l.Back(1, whole[:3]...), api.Obj)
	expectCode(t, "Back of one that does not exist", l.Back(1, append(whole[:3:3], 8)...), api.Par)
	if !slices.Equal(whole, []int{3, 1, 4, 7, 7}) {
		t.Errorf("P2: what was handed to Back became %v", whole)
	}
	clear(whole)
	expect(t, l, 8, rows{{3, 1, 4}, {}})
	l.Remove(1)
	l.Front(0, 6)
	if !slices.Equal(whole, make([]int, 5)) {
		t.Errorf("P2: what was handed to Back was kept: it became %v", whole)
	}
}

func TestFrontAddsAtTheBeginning(t *testing.T) {
	l := made(t, 8, 2)
	expectCode(t, "Front(0, 7)", l.Front(0, 7), api.OK)
	expect(t, l, 8, rows{{7}, {}})
	expectCode(t, "Front(0, 0)", l.Front(0, 0), api.OK)
	expect(t, l, 8, rows{{0, 7}, {}})
	expectCode(t, "Front(1, 3)", l.Front(1, 3), api.OK)
	expectCode(t, "Back(1, 4)", l.Back(1, 4), api.OK)
	expectCode(t, "Front(0, 5)", l.Front(0, 5), api.OK)
	expectCode(t, "Back(0, 1)", l.Back(0, 1), api.OK)
	expectCode(t, "Front(1, 2)", l.Front(1, 2), api.OK)
	expect(t, l, 8, rows{{5, 0, 7, 1}, {2, 3, 4}})
}

func TestFrontRefuses(t *testing.T) {
	want := rows{{3, 1, 2}, {4}, {}}
	l := filled(t, 8, want)
	for _, bad := range append([]int{8, 9, 10}, farNumbers...) {
		for _, other := range []int{0, 1, 2, 3, 5, 8, -1, bad} {
			expectCode(t, "Front(, of no node)", l.Front(other, bad), api.Par)
			expectCode(t, "Front(of no head, )", l.Front(bad, other), api.Par)
		}
	}
	expectCode(t, "Front(3, 5)", l.Front(3, 5), api.Par)
	expectCode(t, "Front(3, 1), no head and in a list", l.Front(3, 1), api.Par)
	for h := range want {
		for _, n := range []int{3, 1, 2, 4} {
			expectCode(t, "Front of a node in a list", l.Front(h, n), api.Obj)
		}
	}
	expect(t, l, 8, want)
}

func TestBeforeAddsAtEachPlace(t *testing.T) {
	for i, at := range []int{3, 1, 4} {
		l := filled(t, 8, rows{{5}, {3, 1, 4}, {}})
		expectCode(t, "Before(7, at)", l.Before(7, at), api.OK)
		expect(t, l, 8, rows{{5}, slices.Insert([]int{3, 1, 4}, i, 7), {}})
		expectCode(t, "Before(0, 7)", l.Before(0, 7), api.OK)
		expect(t, l, 8, rows{{5}, slices.Insert([]int{3, 1, 4}, i, 0, 7), {}})
		expectCode(t, "Before(2, 5), the only one", l.Before(2, 5), api.OK)
		expect(t, l, 8, rows{{2, 5}, slices.Insert([]int{3, 1, 4}, i, 0, 7), {}})
	}
}

func TestBeforeRefuses(t *testing.T) {
	want := rows{{3, 1, 2}, {4}, {}}
	l := filled(t, 8, want)
	for _, bad := range append([]int{8, 9, 10}, farNumbers...) {
		for _, other := range []int{3, 4, 5, 8, -1, bad} { // the first in a list, an only one, one in none, and none
			expectCode(t, "Before(of no node, )", l.Before(bad, other), api.Par)
			expectCode(t, "Before(, no node)", l.Before(other, bad), api.Par)
		}
	}
	for _, c := range [][2]int{
		{5, 6}, {0, 7}, {3, 5}, {4, 5}, // at is in no list
		{3, 1}, {1, 3}, {2, 1}, {1, 4}, {4, 3}, // node is in one
		{3, 3}, {1, 1}, {2, 2}, {4, 4}, {5, 5}, // at itself
	} {
		if code := l.Before(c[0], c[1]); code != api.Obj {
			t.Errorf("P301: Before(%d, %d) is %v", c[0], c[1], code)
		}
		expect(t, l, 8, want)
	}
}

func TestRemoveFromEachPlace(t *testing.T) {
	for i, n := range []int{3, 1, 4} {
		l := filled(t, 8, rows{{5}, {3, 1, 4}})
		rest := slices.Delete([]int{3, 1, 4}, i, i+1)
		expectCode(t, "Remove", l.Remove(n), api.OK)
		expect(t, l, 8, rows{{5}, rest})
		expectCode(t, "Remove again", l.Remove(n), api.Obj)
		expectCode(t, "Remove(5), the only one", l.Remove(5), api.OK)
		expect(t, l, 8, rows{{}, rest})
		expectCode(t, "Back to the other list", l.Back(0, n), api.OK)
		expect(t, l, 8, rows{{n}, rest})
	}
}

func TestRemovedNodesAreAddedAgain(t *testing.T) {
	for i, n := range []int{3, 1, 4} {
		rest := slices.Delete([]int{3, 1, 4}, i, i+1)
		for _, c := range []struct {
			call string
			add  func(l *Lists) api.Code
			at   int
		}{
			{"Back", func(l *Lists) api.Code { return l.Back(0, n) }, 2},
			{"Front", func(l *Lists) api.Code { return l.Front(0, n) }, 0},
			{"Before the first", func(l *Lists) api.Code { return l.Before(n, rest[0]) }, 0},
			{"Before the last", func(l *Lists) api.Code { return l.Before(n, rest[1]) }, 1},
		} {
			l := filled(t, 8, rows{{3, 1, 4}, {6}})
			expectCode(t, "Remove", l.Remove(n), api.OK)
			expectCode(t, c.call, c.add(l), api.OK)
			want := slices.Insert(slices.Clone(rest), c.at, n)
			expect(t, l, 8, rows{want, {6}})
			for _, m := range []int{want[2], want[0], want[1]} {
				expectCode(t, "Remove", l.Remove(m), api.OK)
			}
			expect(t, l, 8, rows{{}, {6}})
		}
	}
}

func TestRemoveRefuses(t *testing.T) {
	want := rows{{3, 1}, {4}}
	l := filled(t, 8, want)
	for _, bad := range append([]int{8, 9, 10}, farNumbers...) {
		expectCode(t, "Remove of no node", l.Remove(bad), api.Par)
	}
	for _, n := range []int{0, 2, 5, 6, 7} {
		expectCode(t, "Remove of a node in no list", l.Remove(n), api.Obj)
	}
	expect(t, l, 8, want)
}

func TestQuestionsOfNumbersThatDoNotExist(t *testing.T) {
	want := rows{{0, 1}, {2}, {}}
	l := filled(t, 4, want)
	for _, bad := range append([]int{4, 5, 6, 7}, farNumbers...) {
		expectNoNode(t, l, bad)
		expectNoHead(t, l, bad)
	}
	expectNoHead(t, l, 3) // a node, but no head
	expect(t, l, 4, want)
}

func TestRowIsNewMemory(t *testing.T) {
	l := filled(t, 8, rows{{3, 1, 4}, {}})
	first, second := l.Row(0), l.Row(0)
	whole := first[:cap(first)]
	for i := range whole {
		whole[i] = 99
	}
	if !slices.Equal(second, []int{3, 1, 4}) {
		t.Errorf("P2: a change of one answer made the other %v", second)
	}
	expect(t, l, 8, rows{{3, 1, 4}, {}})
	l.Remove(1)
	l.Front(0, 7)
	if !slices.Equal(second, []int{3, 1, 4}) {
		t.Errorf("P2: a change of the list made the answer %v", second)
	}
	_ = append(l.Row(1), 55)
	expect(t, l, 8, rows{{7, 3, 4}, {}})
}

func TestZeroListsHaveNoNumbers(t *testing.T) {
	var l Lists
	for _, n := range []int{-1, 0, 1, math.MinInt, math.MaxInt} {
		for i, code := range []api.Code{l.Back(n), l.Back(n, n), l.Front(n, n), l.Before(n, n), l.Remove(n)} {
			if code != api.Par {
				t.Errorf("P1: call %d with %d on zero lists is %v", i, n, code)
			}
		}
		expectNoNode(t, &l, n)
		expectNoHead(t, &l, n)
	}
}

// model is the chapter's sentences over plain slices.
type model struct {
	nodes int
	rows  rows
}

func (m *model) hasNode(n int) bool { return 0 <= n && n < m.nodes }

func (m *model) find(n int) (head, at int) {
	for h, row := range m.rows {
		if i := slices.Index(row, n); i >= 0 {
			return h, i
		}
	}
	return -1, -1
}

func (m *model) put(head, at int, nodes ...int) api.Code {
	for i, n := range nodes {
		if h, _ := m.find(n); h >= 0 || slices.Contains(nodes[:i], n) {
			return api.Obj
		}
	}
	m.rows[head] = slices.Insert(slices.Clone(m.rows[head]), at, nodes...)
	return api.OK
}

func (m *model) add(front bool, head int, nodes ...int) api.Code {
	if head < 0 || head >= len(m.rows) || slices.ContainsFunc(nodes, func(n int) bool { return !m.hasNode(n) }) {
		return api.Par
	}
	if front {
		return m.put(head, 0, nodes...)
	}
	return m.put(head, len(m.rows[head]), nodes...)
}

func (m *model) before(node, at int) api.Code {
	if !m.hasNode(node) || !m.hasNode(at) {
		return api.Par
	}
	head, i := m.find(at)
	if head < 0 {
		return api.Obj
	}
	return m.put(head, i, node)
}

func (m *model) remove(node int) api.Code {
	if !m.hasNode(node) {
		return api.Par
	}
	head, i := m.find(node)
	if head < 0 {
		return api.Obj
	}
	m.rows[head] = slices.Delete(slices.Clone(m.rows[head]), i, i+1)
	return api.OK
}

func TestManyCallsAsTheModel(t *testing.T) {
	for _, size := range [][2]int{{1, 1}, {2, 1}, {3, 2}, {5, 3}, {12, 4}, {6, 64}, {40, 2}} {
		nodes, heads := size[0], size[1]
		l, m := made(t, nodes, heads), &model{nodes, make(rows, heads)}
		seed := uint32(nodes*100 + heads)
		upTo := func(n int) int {
			seed = seed*1664525 + 1013904223
			return int(seed>>8) % n
		}
		node := func() int { return upTo(nodes+2) - 1 }
		head := func() int { return upTo(heads+2) - 1 }
		for step := range 2000 {
			var got, want api.Code
			call := upTo(6)
			switch call {
			case 0:
				h, row := head(), make([]int, upTo(4))
				for i := range row {
					row[i] = node()
				}
				got, want = l.Back(h, row...), m.add(false, h, row...)
			case 1:
				h, n := head(), node()
				got, want = l.Front(h, n), m.add(true, h, n)
			case 2, 3:
				n, at := node(), node()
				got, want = l.Before(n, at), m.before(n, at)
			default:
				n := node()
				got, want = l.Remove(n), m.remove(n)
			}
			if got != want {
				t.Errorf("P301: %d nodes, %d heads, step %d, call %d is %v, not %v", nodes, heads, step, call, got, want)
			}
			expect(t, l, nodes, m.rows)
			if t.Failed() {
				return
			}
		}
	}
}
