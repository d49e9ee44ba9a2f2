package bits

import (
	"math"
	"slices"
	"testing"
)

// outside are no numbers of a Map. Many of them differ from one inside by a whole number of words, of Maps or of halves of an int.
var outside = []int{
	math.MinInt, math.MinInt + 1, math.MinInt + 64, math.MinInt + 256, -1 << 62, -1<<32 + 1, -1 << 32, math.MinInt32, -1 << 16,
	-512, -257, -256, -255, -192, -128, -65, -64, -63, -3, -2, -1, 0,
	257, 258, 300, 319, 320, 321, 511, 512, 513, 1 << 16, 1<<16 + 1, math.MaxInt32, 1 << 32, 1<<32 + 1, 1 << 62, math.MaxInt - 255, math.MaxInt - 1, math.MaxInt,
}

// edges are the numbers on both sides of each word of bits, were a word of 8, 16, 32, 64 or 128.
var edges = []int{1, 2, 8, 9, 16, 17, 31, 32, 33, 34, 63, 64, 65, 66, 96, 97, 127, 128, 129, 130, 160, 161, 191, 192, 193, 194, 224, 225, 248, 249, 254, 255, 256}

func all() []int {
	var l []int
	for p := 1; p <= 256; p++ {
		l = append(l, p)
	}
	return l
}

// filled is a new Map to which the numbers were added in one call.
func filled(l ...int) *Map {
	m := new(Map)
	m.Set(l...)
	return m
}

// without is what is left of an ascending row.
func without(row []int, gone ...int) []int {
	return slices.DeleteFunc(slices.Clone(row), func(p int) bool { return slices.Contains(gone, p) })
}

// after is what the chapter says of After, for an ascending row.
func after(row []int, p int) (int, bool) {
	for _, x := range row {
		if x > p {
			return x, true
		}
	}
	return 0, false
}

// expect asks for all that can be observed of m without changing it; want is ascending.
func expect(t *testing.T, m *Map, want ...int) {
	t.Helper()
	if row := m.Row(); !slices.Equal(row, want) {
		t.Errorf("P501: Row is %v, not %v", row, want)
	}
	if n := m.Len(); n != len(want) {
		t.Errorf("P501: Len is %d, not %d", n, len(want))
	}
	least, there := after(want, math.MinInt)
	if p, ok := m.First(); p != least || ok != there {
		t.Errorf("P501, P4: First is %d, %v, of %v", p, ok, want)
	}
	for p := -2; p <= 259; p++ {
		expectAt(t, m, p, want)
	}
	for _, p := range outside {
		expectAt(t, m, p, want)
	}
}

func expectAt(t *testing.T, m *Map, p int, want []int) {
	t.Helper()
	if _, in := slices.BinarySearch(want, p); m.Has(p) != in {
		t.Errorf("P501: Has(%d) is %v, of %v", p, !in, want)
	}
	next, there := after(want, p)
	if x, ok := m.After(p); x != next || ok != there {
		t.Errorf("P501, P4: After(%d) is %d, %v, of %v", p, x, ok, want)
	}
}

func TestTheExample(t *testing.T) {
	m := filled(64, 1, 256, 65, 0, 257, -3, 64)
	if row := m.Row(); !slices.Equal(row, []int{1, 64, 65, 256}) {
		t.Errorf("P501: Row is %v", row)
	}
	if p, ok := m.After(65); p != 256 || !ok {
		t.Errorf("P501: After(65) is %d, %v", p, ok)
	}
	expect(t, m, 1, 64, 65, 256)
}

func TestAZeroMapIsEmpty(t *testing.T) {
	var m Map
	expect(t, &m)
	m.Clear()
	m.Clear(1, 64, 65, 256)
	m.Clear(outside...)
	m.Set()
	expect(t, &m)
	expect(t, &Map{})
	expect(t, new(Map))
}

func TestHas(t *testing.T) {
	m := filled(1, 64, 65, 256)
	for p, want := range map[int]bool{1: true, 64: true, 65: true, 256: true, 2: false, 63: false, 66: false, 128: false, 129: false, 192: false, 193: false, 255: false, 0: false, 257: false, -1: false, -63: false, -191: false, 320: false, 321: false, 512: false} {
		if m.Has(p) != want {
			t.Errorf("P501: Has(%d) is %v", p, !want)
		}
	}
}

func TestFirst(t *testing.T) {
	var m Map
	if p, ok := m.First(); p != 0 || ok {
		t.Errorf("P501, P4: First of none is %d, %v", p, ok)
	}
	for _, p := range []int{256, 193, 192, 129, 128, 65, 64, 2, 1} {
		m.Set(p)
		if first, ok := m.First(); first != p || !ok {
			t.Errorf("P501: First is %d, %v, not %d", first, ok, p)
		}
	}
	m.Set(200, 100)
	if first, ok := m.First(); first != 1 || !ok {
		t.Errorf("P501: First is %d, %v, not 1", first, ok)
	}
	m.Clear(m.Row()...)
	if p, ok := m.First(); p != 0 || ok {
		t.Errorf("P501, P4: First of none any more is %d, %v", p, ok)
	}
}

func TestAfter(t *testing.T) {
	m := filled(3, 64, 65, 128, 192, 194, 250)
	for p, want := range map[int]int{
		0: 3, 2: 3, // of nought; of one that is not there
		3: 64, 4: 64, 63: 64, 64: 65, 65: 128, 66: 128, 127: 128, 128: 192, 129: 192, 191: 192, 192: 194, 193: 194, 194: 250, 249: 250,
		-1: 3, -64: 3, -256: 3, math.MinInt: 3, math.MinInt + 1: 3, -1 << 32: 3,
	} {
		if x, ok := m.After(p); x != want || !ok {
			t.Errorf("P501: After(%d) is %d, %v, not %d", p, x, ok, want)
		}
	}
	for _, p := range []int{250, 251, 255, 256, 257, 320, 512, 1 << 32, math.MaxInt - 1, math.MaxInt} {
		if x, ok := m.After(p); x != 0 || ok {
			t.Errorf("P501, P4: After(%d) is %d, %v", p, x, ok)
		}
	}
}

func TestOneNumber(t *testing.T) {
	var m Map
	for p := 1; p <= 256; p++ {
		m.Set(p)
		expect(t, &m, p)
		m.Set(p) // there already
		expect(t, &m, p)
		m.Clear(p)
		expect(t, &m)
		m.Clear(p) // not there any more
		expect(t, &m)
		m.Set(p) // again
		expect(t, &m, p)
		m.Clear(p)
	}
}

func TestAllNumbersButOne(t *testing.T) {
	full := all()
	m := filled(full...)
	expect(t, m, full...)
	for _, p := range edges {
		m.Clear(p)
		expect(t, m, without(full, p)...)
		m.Clear(p)
		expect(t, m, without(full, p)...)
		m.Set(p)
		expect(t, m, full...)
	}
	m.Set(full...)
	m.Set(257, 0)
	m.Clear(257, 0)
	expect(t, m, full...)
	m.Clear(full...)
	expect(t, m)
}

func TestAllNumbersOneByOne(t *testing.T) {
	full := all()
	var m Map
	for i, p := range full {
		m.Set(p)
		expect(t, &m, full[:i+1]...)
	}
	for i, p := range full {
		m.Clear(p)
		expect(t, &m, full[i+1:]...)
	}
	for i := range full { // from the greatest down
		at := len(full) - 1 - i
		m.Set(full[at])
		expect(t, &m, full[at:]...)
	}
}

func TestPairsOfEdges(t *testing.T) {
	for i, p := range edges {
		for _, q := range edges[i+1:] {
			expect(t, filled(q, p), p, q)
			m := filled(p, q)
			m.Clear(p)
			expect(t, m, q)
			m.Set(p)
			m.Clear(q)
			expect(t, m, p)
			if t.Failed() {
				return
			}
		}
	}
}

func TestSet(t *testing.T) {
	var m Map
	m.Set(130)
	expect(t, &m, 130)
	m.Set()
	m.Set(nil...)
	m.Set([]int{}...)
	expect(t, &m, 130)
	m.Set(7, 256, 1, 200)
	expect(t, &m, 1, 7, 130, 200, 256)
	m.Set(9, 9, 9) // the same number in one call, not there before
	expect(t, &m, 1, 7, 9, 130, 200, 256)
	m.Set(9, 10, 9, 130, 9)
	expect(t, &m, 1, 7, 9, 10, 130, 200, 256)
}

func TestClear(t *testing.T) {
	m := filled(1, 7, 9, 64, 65, 130, 200, 256)
	m.Clear()
	m.Clear(nil...)
	m.Clear([]int{}...)
	expect(t, m, 1, 7, 9, 64, 65, 130, 200, 256)
	m.Clear(9)
	expect(t, m, 1, 7, 64, 65, 130, 200, 256)
	m.Clear(8, 2, 63, 66, 255) // none of them there
	expect(t, m, 1, 7, 64, 65, 130, 200, 256)
	m.Clear(256, 8, 1, 65)
	expect(t, m, 7, 64, 130, 200)
	m.Clear(130, 130) // the same number in one call
	expect(t, m, 7, 64, 200)
	m.Clear(7, 200, 7, 200)
	expect(t, m, 64)
	m.Set(130, 7)
	expect(t, m, 7, 64, 130)
}

// among is each number of l between two numbers from outside.
func among(l ...int) []int {
	var mixed []int
	for i, p := range l {
		mixed = append(mixed, outside[2*i%len(outside)], p, outside[(2*i+1)%len(outside)])
	}
	return mixed
}

func TestNumbersOutsideAreIgnored(t *testing.T) {
	for _, inside := range [][]int{nil, {1}, {256}, {1, 64, 65, 256}, edges, all()} {
		m := filled(inside...)
		m.Set(outside...)
		expect(t, m, inside...)
		m.Clear(outside...)
		expect(t, m, inside...)
		for _, p := range outside {
			m.Set(p)
			m.Clear(p)
		}
		expect(t, m, inside...)
		expect(t, filled(append(slices.Clone(outside), inside...)...), inside...)
		expect(t, filled(append(slices.Clone(inside), outside...)...), inside...)
		expect(t, filled(among(inside...)...), inside...)
		rest := filled(all()...)
		rest.Clear(among(inside...)...)
		expect(t, rest, without(all(), inside...)...)
	}
}

func TestEachNumberOutsideIsIgnored(t *testing.T) {
	for _, p := range outside {
		var m Map
		m.Set(p)
		expect(t, &m)
		m.Set(p, 100, p)
		expect(t, &m, 100)
		m.Set(all()...)
		m.Clear(p, 100, p)
		expect(t, &m, without(all(), 100)...)
	}
}

func TestWhatIsHandedInIsNotChanged(t *testing.T) {
	for _, call := range []func(m *Map, l ...int){(*Map).Set, (*Map).Clear} {
		l := []int{65, 3, 300, 3, -1, 256, 0, 11, 12, 13}
		was := slices.Clone(l)
		m := filled(3, 4)
		call(m, l[:7]...) // 11, 12 and 13 are unused capacity
		if !slices.Equal(l, was) {
			t.Errorf("P2: what was handed in became %v", l)
		}
	}
}

func TestWhatIsHandedInIsNotKept(t *testing.T) {
	l := []int{65, 3, 256}
	m := filled(l...)
	copy(l, []int{1, 2, 4})
	expect(t, m, 3, 65, 256)
	l = []int{3}
	m.Clear(l...)
	l[0] = 65
	expect(t, m, 65, 256)
}

func TestRowIsNewMemory(t *testing.T) {
	for _, want := range [][]int{nil, {5}, {1, 64, 65, 256}, all()} {
		m := filled(want...)
		row, other := m.Row(), m.Row()
		clear(row[:cap(row)])
		_ = append(row[:0], make([]int, cap(row))...)
		if !slices.Equal(other, want) {
			t.Errorf("P2: two rows share memory: the other became %v", other)
		}
		expect(t, m, want...)
		m.Set(77)
		m.Clear(1, 5, 64)
		m.Row()
		if !slices.Equal(other, want) {
			t.Errorf("P2: a row follows its Map: it became %v", other)
		}
		if slices.ContainsFunc(row[:cap(row)], func(p int) bool { return p != 0 }) {
			t.Errorf("P2: a row was kept: it became %v", row)
		}
	}
}

func TestRowMayBeHandedIn(t *testing.T) {
	m := filled(1, 64, 65, 256)
	m.Set(m.Row()...)
	expect(t, m, 1, 64, 65, 256)
	m.Clear(m.Row()...)
	expect(t, m)
}

func TestMapsAreNotShared(t *testing.T) {
	m, other := filled(1, 64, 65, 256), filled(2, 200)
	twin := *m
	m.Clear(64)
	m.Set(63)
	expect(t, &twin, 1, 64, 65, 256)
	expect(t, other, 2, 200)
	twin.Clear(1, 65)
	twin.Set(255)
	expect(t, &twin, 64, 255, 256)
	expect(t, m, 1, 63, 65, 256)
	expect(t, new(Map))
}

// steps is a row of numbers that is the same in each run.
type steps uint64

func (s *steps) below(n int) int {
	*s = *s*6364136223846793005 + 1442695040888963407
	return int((uint64(*s) >> 33) % uint64(n))
}

// number is mostly inside, at times a little or far outside.
func (s *steps) number() int {
	switch s.below(8) {
	case 0:
		return outside[s.below(len(outside))]
	case 1:
		return edges[s.below(len(edges))]
	}
	return s.below(260) - 1
}

func TestManyCallsAsTheModel(t *testing.T) {
	for seed := range 8 {
		s := steps(seed)
		var m Map
		var in [257]bool // the chapter's set, number by number
		for step := range 300 {
			add := s.below(16) >= seed+4 // some Maps become full, others stay nearly empty
			l := make([]int, s.below(10))
			for i := range l {
				l[i] = s.number()
				if l[i] >= 1 && l[i] <= 256 {
					in[l[i]] = add
				}
			}
			if add {
				m.Set(l...)
			} else {
				m.Clear(l...)
			}
			var want []int
			for p, there := range in {
				if there {
					want = append(want, p)
				}
			}
			expect(t, &m, want...)
			if t.Failed() {
				t.Fatalf("P501: seed %d, step %d, numbers %v, add %v", seed, step, l, add)
			}
		}
	}
}
