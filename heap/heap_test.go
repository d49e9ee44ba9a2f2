package heap

import (
	"cmp"
	"math"
	"math/big"
	"slices"
	"testing"

	"detent/api"
)

const top = math.MaxUint64

// edgeTimes are the places where a comparison with a sign, in 48 bits or in 32 would go wrong.
var edgeTimes = []uint64{
	0, 1, 2, 5, 1<<31 - 1, 1 << 31, 1<<32 - 1, 1 << 32, 1<<32 + 5,
	1<<47 - 1, 1 << 47, 1<<48 - 1, 1 << 48, 1<<48 + 5,
	1<<63 - 1, 1 << 63, 1<<63 + 1, 1<<63 + 5, top - 5, top - 1, top,
}

// timer is an entry as the chapter has it.
type timer struct {
	at     uint64
	handle int
	arg    int
}

// model is the chapter's queue, in its plainest form: the entries in the order of their handles.
type model struct {
	timers []timer
	last   int
}

func (m *model) insert(at uint64, arg int) (int, api.Code) {
	if len(m.timers) == 256 {
		return 0, api.Nomem
	}
	m.last++
	m.timers = append(m.timers, timer{at, m.last, arg})
	return m.last, api.OK
}

func (m *model) cancel(handle int) bool {
	before := len(m.timers)
	m.timers = slices.DeleteFunc(m.timers, func(e timer) bool { return e.handle == handle })
	return len(m.timers) < before
}

func (m *model) due(now uint64) []int {
	var args []int
	for _, e := range m.sorted() {
		if e.at <= now {
			args = append(args, e.arg)
			m.cancel(e.handle)
		}
	}
	return args
}

func (m *model) sorted() []timer {
	row := slices.Clone(m.timers)
	slices.SortStableFunc(row, func(a, b timer) int { return cmp.Compare(a.at, b.at) })
	return row
}

func (m *model) twin() *model {
	return &model{slices.Clone(m.timers), m.last}
}

// left is in numbers without end, so that the tests do not lean on the arithmetic under test.
func left(at, now uint64) int64 {
	x := new(big.Int).Sub(new(big.Int).SetUint64(at), new(big.Int).SetUint64(now))
	whole := new(big.Int).Lsh(big.NewInt(1), 64)
	x.Mod(x, whole)
	if x.Bit(63) == 1 {
		x.Sub(x, whole)
	}
	return x.Int64()
}

// both is a queue beside its model: each call is made on the two, and the answers are held against each other.
type both struct {
	t    *testing.T
	real *Timers
	want *model
}

// filled is a new queue with an entry at each of the times; their args begin at 100, so that they are not taken for handles.
func filled(t *testing.T, times ...uint64) *both {
	t.Helper()
	b := &both{t, New(), &model{}}
	for i, at := range times {
		b.insert(at, 100+i)
	}
	return b
}

func (b *both) insert(at uint64, arg int) {
	b.t.Helper()
	h, code := b.real.Insert(at, arg)
	wantHandle, wantCode := b.want.insert(at, arg)
	if h != wantHandle || code != wantCode {
		b.t.Errorf("P701: Insert(%d, %d) is %d, %v, not %d, %v", at, arg, h, code, wantHandle, wantCode)
	}
	b.summary()
}

func (b *both) cancel(handle int) {
	b.t.Helper()
	got, want := b.real.Cancel(handle), b.want.cancel(handle)
	if got != want {
		b.t.Errorf("P701: Cancel(%d) is %v", handle, got)
	}
	b.summary()
}

func (b *both) due(now uint64) {
	b.t.Helper()
	got, want := b.real.Due(now), b.want.due(now)
	if !slices.Equal(got, want) {
		b.t.Errorf("P701: Due(%d) is %v, not %v", now, got, want)
	}
	b.summary()
}

// summary asks for Len and Next alone, which is quick.
func (b *both) summary() {
	b.t.Helper()
	if b.real.Len() != len(b.want.timers) {
		b.t.Errorf("P701: Len is %d, not %d", b.real.Len(), len(b.want.timers))
	}
	at, ok := b.real.Next()
	if row := b.want.sorted(); len(row) == 0 && (at != 0 || ok) {
		b.t.Errorf("P701, P4: Next is %d, %v where there is no entry", at, ok)
	} else if len(row) > 0 && (at != row[0].at || !ok) {
		b.t.Errorf("P701: Next is %d, %v, not %d", at, ok, row[0].at)
	}
}

// state asks for all that can be observed: the entries one by one, the handles that are not there, and, of a twin, what comes out and the next handle.
func (b *both) state() {
	b.t.Helper()
	b.summary()
	for _, e := range b.want.timers {
		for _, now := range []uint64{0, e.at, e.at - 1, e.at + 1, 1 << 63, top} {
			if got, ok := b.real.Left(e.handle, now); got != left(e.at, now) || !ok {
				b.t.Errorf("P701: Left(%d, %d) is %d, %v, not %d", e.handle, now, got, ok, left(e.at, now))
			}
		}
	}
	for _, h := range b.absent() {
		if got, ok := b.real.Left(h, 3); got != 0 || ok {
			b.t.Errorf("P701, P4: Left(%d, 3) is %d, %v where it is not there", h, got, ok)
		}
	}
	twin := b.twin()
	twin.due(top)
	twin.insert(1, 1)
	twin.due(top)
}

// absent are the handles that are gone, and some that never were.
func (b *both) absent() []int {
	row := []int{0, -1, -2, -256, math.MinInt, math.MaxInt, math.MinInt32, math.MaxInt32, 1 << 32, 1<<32 + 1, b.want.last + 1, b.want.last + 256}
	for h := 1; h <= b.want.last; h++ {
		if !slices.ContainsFunc(b.want.timers, func(e timer) bool { return e.handle == h }) {
			row = append(row, h, -h)
		}
	}
	return row
}

func (b *both) twin() *both {
	return &both{b.t, b.real.Twin(), b.want.twin()}
}

// steps is a row of numbers that is the same in each run.
type steps uint64

func (s *steps) below(n int) int {
	*s = *s*6364136223846793005 + 1442695040888963407
	return int((uint64(*s) >> 33) % uint64(n))
}

// permutations calls f with each order of the numbers from 0 to n - 1.
func permutations(n int, f func([]int)) {
	row := make([]int, n)
	var place func(k int)
	place = func(k int) {
		if k == n {
			f(row)
			return
		}
		for at := range n {
			if row[at] == 0 {
				row[at] = k
				place(k + 1)
				row[at] = 0
			}
		}
	}
	if n == 0 {
		f(row)
		return
	}
	// 0 marks what is free while the others are placed, and is itself the one that is left.
	place(1)
}

func TestPermutationsAreAllOfThem(t *testing.T) {
	for n, want := range []int{1, 1, 2, 6, 24, 120} {
		seen := map[string]int{}
		permutations(n, func(row []int) {
			key := ""
			for _, x := range row {
				key += string(rune('0' + x))
			}
			seen[key]++
		})
		if len(seen) != want {
			t.Fatalf("%d orders of %d, not %d", len(seen), n, want)
		}
	}
}

func TestANewOneIsEmpty(t *testing.T) {
	for _, m := range []*Timers{New(), New().Twin()} {
		if m == nil {
			t.Fatal("P701: New or Twin is nil")
		}
		if at, ok := m.Next(); at != 0 || ok {
			t.Errorf("P701, P4: Next is %d, %v", at, ok)
		}
		for _, h := range []int{0, 1, -1, math.MinInt, math.MaxInt} {
			if x, ok := m.Left(h, 7); x != 0 || ok {
				t.Errorf("P701, P4: Left(%d, 7) is %d, %v", h, x, ok)
			}
			if m.Cancel(h) {
				t.Errorf("P701: Cancel(%d) found something", h)
			}
		}
		for _, now := range edgeTimes {
			if x := m.Due(now); len(x) != 0 {
				t.Errorf("P701: Due(%d) is %v", now, x)
			}
		}
		if m.Len() != 0 {
			t.Errorf("P701: Len is %d", m.Len())
		}
		if h, code := m.Insert(9, 5); h != 1 || code != api.OK {
			t.Errorf("P701: the first Insert is %d, %v", h, code)
		}
	}
}

func TestNewOnesShareNothing(t *testing.T) {
	a, b := filled(t), filled(t)
	a.insert(5, 1)
	b.state()
	b.insert(3, 2)
	b.insert(4, 3)
	a.state()
	a.due(top)
	b.state()
	a.insert(6, 4)
	a.state()
	b.state()
}

func TestTheChaptersExample(t *testing.T) {
	m := New()
	for i, at := range []uint64{50, 10, 30, 10, 1<<64 - 1, 30, 0} {
		if h, code := m.Insert(at, 10*i); h != i+1 || code != api.OK || m.Len() != i+1 {
			t.Errorf("P701: Insert %d is %d, %v, with %d entries", i, h, code, m.Len())
		}
	}
	for _, c := range []struct {
		handle int
		now    uint64
		want   int64
	}{{1, 20, 30}, {1, 70, -20}, {5, 5, -6}} {
		if x, ok := m.Left(c.handle, c.now); x != c.want || !ok {
			t.Errorf("P701: Left(%d, %d) is %d, %v, not %d", c.handle, c.now, x, ok, c.want)
		}
	}
	if at, ok := m.Next(); at != 0 || !ok {
		t.Errorf("P701: Next is %d, %v", at, ok)
	}
	if x := m.Due(49); !slices.Equal(x, []int{60, 10, 30, 20, 50}) || m.Len() != 2 {
		t.Errorf("P701: Due(49) is %v, with %d left", x, m.Len())
	}
	if x := m.Due(1<<64 - 2); !slices.Equal(x, []int{0}) || m.Len() != 1 {
		t.Errorf("P701: Due(2^64 - 2) is %v, with %d left", x, m.Len())
	}
	if x := m.Due(1<<64 - 1); !slices.Equal(x, []int{40}) || m.Len() != 0 {
		t.Errorf("P701: Due(2^64 - 1) is %v, with %d left", x, m.Len())
	}
}

func TestDueJustNowOneBeforeOneBehind(t *testing.T) {
	for _, at := range edgeTimes {
		for _, c := range []struct {
			now  uint64
			fits bool // now - 1 and now + 1 are times, too
			want int
		}{{at - 1, at > 0, 0}, {at, true, 1}, {at + 1, at < top, 1}} {
			if !c.fits {
				continue
			}
			m := New()
			m.Insert(at, 7)
			if x := m.Due(c.now); len(x) != c.want || m.Len() != 1-c.want {
				t.Errorf("P701: Due(%d) of an entry at %d is %v, with %d left", c.now, at, x, m.Len())
			}
		}
	}
}

func TestTimesDoNotWrapAround(t *testing.T) {
	for _, now := range edgeTimes {
		b := filled(t, edgeTimes...)
		b.due(now)
		b.state()
		b.due(now)
		b.due(top)
		b.due(top)
	}
	back := slices.Clone(edgeTimes)
	slices.Reverse(back)
	b := filled(t, back...)
	for _, now := range edgeTimes {
		b.due(now)
		b.state()
	}
	if b.real.Len() != 0 {
		t.Errorf("P701: %d entries are left at the last time", b.real.Len())
	}
}

func TestTheFirstAndTheLastTime(t *testing.T) {
	b := filled(t, top, 0, top, 0)
	if at, ok := b.real.Next(); at != 0 || !ok {
		t.Errorf("P701: Next is %d, %v", at, ok)
	}
	b.due(0)
	b.state()
	if at, ok := b.real.Next(); at != top || !ok || b.real.Len() != 2 {
		t.Errorf("P701: Next is %d, %v, of %d", at, ok, b.real.Len())
	}
	b.due(top - 1)
	b.state()
	b.due(top)
	b.state()
}

func TestSeveralOfTheSameTimeComeByTheirHandles(t *testing.T) {
	for _, at := range edgeTimes {
		for n := 1; n <= 40; n++ {
			m := New()
			var want []int
			for i := range n {
				m.Insert(at, n-i) // args that fall, so that they are not what sorts
				want = append(want, n-i)
			}
			if x := m.Due(at); !slices.Equal(x, want) || m.Len() != 0 {
				t.Fatalf("P701: Due(%d) of %d entries is %v", at, n, x)
			}
		}
	}
}

func TestTheSameTimeByHandlesWhileOthersComeAndGo(t *testing.T) {
	b := filled(t, 5, 3, 5, 9, 5, 1, 5, 5, 3, 9)
	for _, h := range []int{3, 6, 1} {
		b.cancel(h)
		b.insert(5, 200+h)
		b.state()
	}
	b.due(3)
	b.insert(5, 300)
	b.state()
	b.due(5)
	b.due(9)
}

func TestArgsComeBackAsTheyAre(t *testing.T) {
	args := []int{0, -1, 1, math.MinInt, math.MaxInt, 5, 5, -1 << 33, 1 << 33, 0}
	m := New()
	for i, arg := range args {
		m.Insert(uint64(i), arg)
	}
	if x := m.Due(top); !slices.Equal(x, args) {
		t.Errorf("P701: the args are %v, not %v", x, args)
	}
}

func TestEveryOrderOfInserts(t *testing.T) {
	for _, times := range [][]uint64{
		nil, {4}, {4, 4}, {4, 7}, {1, 2, 3}, {1, 2, 2}, {0, 1, 2, top}, {3, 3, 4, 4}, {1, 2, 3, 4, 5}, {1, 2, 2, 2, 3}, {1, 2, 3, 4, 5, 6}, {1, 1, 2, 2, 3, 3},
	} {
		permutations(len(times), func(order []int) {
			b := filled(t)
			for i, k := range order {
				b.insert(times[k], 100+i)
			}
			b.state()
			for _, now := range times {
				b.due(now)
			}
			b.due(top)
			if t.Failed() {
				t.Fatalf("P701: the order %v of %v", order, times)
			}
		})
	}
}

func TestEveryOrderOfInsertsWithEachOneCancelled(t *testing.T) {
	times := []uint64{1, 2, 3, 4, 4, 5, 6}
	permutations(len(times), func(order []int) {
		for handle := 1; handle <= len(times); handle++ {
			b := filled(t)
			for i, k := range order {
				b.insert(times[k], 100+i)
			}
			b.cancel(handle)
			b.due(top)
			if t.Failed() {
				t.Fatalf("P701: Cancel(%d) after the order %v", handle, order)
			}
		}
	})
}

// What fills the gap of a cancelled entry may have to go up: in this shape the last one stands in another branch, and comes before those above the gap.
func TestCancelWhereTheLastOneGoesUp(t *testing.T) {
	b := filled(t, 1, 50, 2, 60, 70, 3, 4, 80, 90, 75, 76, 5)
	for handle := 1; handle <= 12; handle++ {
		twin := b.twin()
		twin.cancel(handle)
		twin.state()
	}
	b.cancel(8)
	b.cancel(4)
	b.state()
	b.due(4)
	b.state()
}

func TestTwoHundredAndFiftySixEntriesAndOneMore(t *testing.T) {
	b := filled(t)
	for i := range 256 {
		b.insert(uint64(i*37%101), i)
	}
	b.state()
	for range 3 {
		if h, code := b.real.Insert(0, 9); h != 0 || code != api.Nomem {
			t.Errorf("P701, P4: the 257th Insert is %d, %v", h, code)
		}
		b.state()
	}
	b.cancel(100)
	if h, code := b.real.Insert(4, 77); h != 257 || code != api.OK {
		t.Errorf("P701: a refused Insert took a handle: the next one is %d, %v", h, code)
	}
	b.want.insert(4, 77)
	b.state()
	b.insert(4, 78) // refused again
	b.state()
	b.due(0)
	b.insert(100, 79)
	b.state()
	b.due(100)
	if b.real.Len() != 0 {
		t.Errorf("P701: %d are left", b.real.Len())
	}
	for i := range 257 {
		b.insert(uint64(1000-i), i)
	}
	b.state()
}

func TestAFullOneOfOneTime(t *testing.T) {
	b := filled(t)
	for i := range 256 {
		b.insert(top, 1000-i)
	}
	b.insert(0, 5)
	b.due(top - 1)
	b.state()
	b.due(top)
	b.state()
}

func TestHandlesGoOn(t *testing.T) {
	b := filled(t, 5, 6, 7)
	b.cancel(3)
	b.insert(7, 1)
	b.cancel(4)
	b.insert(7, 2)
	if h, _ := b.real.Twin().Insert(7, 3); h != 6 {
		t.Errorf("P701: the handle is %d, not 6", h)
	}
	b.state()
	b.due(top)
	b.insert(1, 4)
	if x, ok := b.real.Left(6, 0); x != 1 || !ok {
		t.Errorf("P701: Left(6, 0) is %d, %v", x, ok)
	}
	b.state()
}

func TestAPlaceUsedAgainWhileHandlesGoOn(t *testing.T) {
	b := filled(t, 10, 20, 30, 40, 50)
	handle := 3
	for i := range 600 {
		b.cancel(handle)
		b.insert(uint64(i%60), 1000+i)
		handle = b.want.last
		if i%97 == 0 {
			b.state()
		}
	}
	b.state()
	if b.want.last != 605 || b.real.Len() != 5 {
		t.Errorf("P701: %d handles, %d entries", b.want.last, b.real.Len())
	}
}

func TestADueOneLeavesRoom(t *testing.T) {
	b := filled(t)
	for i := range 256 {
		b.insert(uint64(i), i)
	}
	for i := range 300 {
		b.due(uint64(i))
		b.insert(uint64(256+i), 256+i)
		b.insert(0, 0) // the 257th
		if i%75 == 0 {
			b.state()
		}
	}
	b.state()
}

func TestAllAtOnceAndOneByOne(t *testing.T) {
	s := steps(3)
	for _, n := range []int{0, 1, 2, 3, 7, 8, 100, 255, 256} {
		b := filled(t)
		for i := range n {
			b.insert(uint64(s.below(50)), i)
		}
		once, each := b.twin(), b.twin()
		once.due(top)
		once.state()
		for now := range uint64(51) {
			each.due(now)
			each.due(now) // nothing is due twice
		}
		each.state()
		b.state()
	}
}

func TestDueOneByOneInFallingOrder(t *testing.T) {
	b := filled(t)
	for i := range 256 {
		b.insert(uint64(255-i), i)
	}
	for now := range uint64(256) {
		if x := b.real.Due(now); !slices.Equal(x, []int{255 - int(now)}) {
			t.Fatalf("P701: Due(%d) is %v", now, x)
		}
		b.want.due(now)
		b.summary()
	}
}

func TestDueOfATimeGoneBy(t *testing.T) {
	b := filled(t, 10, 20, 30)
	b.due(20)
	b.due(5) // now may go back
	b.insert(4, 7)
	b.due(3)
	b.state()
	b.due(5)
	b.state()
}

func TestLeft(t *testing.T) {
	for _, at := range edgeTimes {
		b := filled(t, 3, at, top)
		for _, now := range edgeTimes {
			if x, ok := b.real.Left(2, now); x != left(at, now) || !ok {
				t.Errorf("P701: Left at %d of an entry at %d is %d, %v, not %d", now, at, x, ok, left(at, now))
			}
		}
		b.state()
	}
}

func TestLeftGoesRoundTheNumbers(t *testing.T) {
	for _, c := range []struct {
		at, now uint64
		want    int64
	}{
		{10, 10, 0}, {10, 9, 1}, {10, 11, -1}, {0, 1, -1}, {0, top, 1}, {top, 0, -1}, {top, top, 0}, {5, top, 6},
		{1 << 63, 0, math.MinInt64}, {0, 1 << 63, math.MinInt64}, {1<<63 - 1, 0, math.MaxInt64},
		{1 << 63, 1, math.MaxInt64}, {1, 1 << 63, math.MinInt64 + 1}, {0, 1<<63 + 1, math.MaxInt64},
		{1 << 48, 0, 1 << 48}, {0, 1 << 48, -1 << 48}, {1<<48 + 1, 1, 1 << 48},
	} {
		m := New()
		m.Insert(c.at, 4)
		for range 2 { // asked twice: it changes nothing
			if x, ok := m.Left(1, c.now); x != c.want || !ok || m.Len() != 1 {
				t.Errorf("P701: Left(1, %d) of an entry at %d is %d, %v, not %d", c.now, c.at, x, ok, c.want)
			}
		}
	}
}

func TestLeftOfAnEntryWhoseTimeIsOver(t *testing.T) {
	b := filled(t, 10, 20)
	if x, ok := b.real.Left(1, 500); x != -490 || !ok {
		t.Errorf("P701: Left(1, 500) is %d, %v", x, ok)
	}
	b.due(9) // its time is over only when Due says so
	if x, ok := b.real.Left(1, 500); x != -490 || !ok {
		t.Errorf("P701: Left(1, 500) is %d, %v", x, ok)
	}
	b.due(10)
	if x, ok := b.real.Left(1, 5); x != 0 || ok {
		t.Errorf("P701, P4: Left of one that was due is %d, %v", x, ok)
	}
	b.state()
}

func TestNextFollowsWhatComesAndGoes(t *testing.T) {
	m := New()
	next := func(want uint64, wantOK bool) {
		t.Helper()
		for range 2 { // asked twice: it changes nothing
			if at, ok := m.Next(); at != want || ok != wantOK {
				t.Errorf("P701: Next is %d, %v, not %d, %v", at, ok, want, wantOK)
			}
		}
	}
	next(0, false)
	m.Insert(50, 1)
	next(50, true)
	m.Insert(60, 2)
	next(50, true)
	m.Insert(40, 3)
	next(40, true)
	m.Cancel(3)
	next(50, true)
	m.Cancel(1)
	next(60, true)
	m.Due(59)
	next(60, true)
	m.Due(60)
	next(0, false)
	m.Insert(0, 4)
	next(0, true)
	m.Cancel(4)
	next(0, false)
}

func TestCancelThatFindsNothingLeavesAllAsItWas(t *testing.T) {
	b := filled(t, 9, 3, 7, 3, 1, 8, 3, 2)
	b.cancel(4) // cancelled
	b.due(2)    // due already: 5 and 8
	for _, h := range b.absent() {
		if b.real.Cancel(h) {
			t.Errorf("P701: Cancel(%d) found something", h)
		}
		b.state()
	}
	if b.real.Len() != 5 {
		t.Errorf("P701: Len is %d", b.real.Len())
	}
	for _, h := range []int{1, 2, 3, 6, 7} {
		b.cancel(h)
		b.cancel(h)
		b.state()
	}
	if b.real.Len() != 0 {
		t.Errorf("P701: Len is %d when all are cancelled", b.real.Len())
	}
}

func TestCancelKnowsHandlesNotArgsTimesOrPlaces(t *testing.T) {
	m := New()
	m.Insert(70, 50)
	m.Insert(60, 40)
	m.Cancel(1)
	m.Insert(50, 70) // handle 3, in the first place
	for _, h := range []int{0, 1, 4, 40, 50, 60, 70} {
		if m.Cancel(h) {
			t.Errorf("P701: Cancel(%d) found something", h)
		}
	}
	if !m.Cancel(2) || m.Len() != 1 {
		t.Error("P701: Cancel(2) found nothing")
	}
	if x := m.Due(top); !slices.Equal(x, []int{70}) {
		t.Errorf("P701: Due is %v", x)
	}
}

func TestTwinsGoTheirOwnWays(t *testing.T) {
	for _, n := range []int{0, 1, 5, 8, 255, 256} {
		b := filled(t)
		for i := range n {
			b.insert(uint64(i*37%101), i)
		}
		b.cancel(2)
		twin := b.twin()
		if twin.real == b.real {
			t.Fatal("P701: the twin is the queue itself")
		}
		twin.state()

		b.insert(0, 500)
		b.insert(50, 501)
		twin.summary()
		twin.insert(1, 600)
		b.state()
		twin.state()

		b.cancel(n / 2)
		b.due(20)
		twin.state()
		third := twin.twin()
		twin.due(60)
		b.state()
		third.state()
		twin.insert(3, 700)
		twin.cancel(n)
		b.due(top)
		third.state()
		twin.state()
		b.insert(4, 800)
		third.due(top)
		b.state()
		twin.state()
	}
}

func TestWhatDueReturnsIsNewMemory(t *testing.T) {
	b := filled(t, 1, 2, 3, 4, 5, 6, 7, 8, 9)
	twin := b.twin()
	first := b.real.Due(5)
	b.want.due(5)
	second := twin.real.Due(5)
	twin.want.due(5)
	third := b.real.Due(7)
	b.want.due(7)
	for _, x := range [][]int{first, third} {
		whole := x[:cap(x)]
		for i := range whole {
			whole[i] = -9
		}
	}
	if !slices.Equal(second, []int{100, 101, 102, 103, 104}) {
		t.Errorf("P2: a change of one answer made another %v", second)
	}
	_ = append(second, -8, -8, -8)
	b.state()
	twin.state()
	for i := range 40 {
		b.insert(uint64(i), i)
		twin.insert(uint64(i), i)
	}
	b.due(30)
	twin.due(30)
	for _, x := range [][]int{first, third} {
		if slices.ContainsFunc(x[:cap(x)], func(arg int) bool { return arg != -9 }) {
			t.Errorf("P2: an answer was kept: it became %v", x[:cap(x)])
		}
	}
}

func TestAnEmptyDueChangesNothing(t *testing.T) {
	b := filled(t, 10, 12, 11)
	for _, now := range []uint64{0, 5, 9} {
		b.due(now)
		b.state()
	}
	if b.real.Len() != 3 {
		t.Errorf("P701: Len is %d", b.real.Len())
	}
}

func TestManyCallsAsTheModel(t *testing.T) {
	for seed := range 24 {
		s := steps(seed)
		spread := []int{1, 3, 20, 300, 1 << 20, 1 << 30}[seed%6]
		time := func() uint64 {
			if s.below(12) == 0 {
				return edgeTimes[s.below(len(edgeTimes))]
			}
			return uint64(s.below(spread))
		}
		inserts := 4 + s.below(5) // of ten calls; the more, the fuller
		b := filled(t)
		for step := range 1500 {
			switch k := s.below(10); {
			case k < inserts:
				b.insert(time(), s.below(1000)-500)
			case k < 9:
				b.cancel(s.below(b.want.last+4) - 1)
			case s.below(4) == 0:
				b.due(time() / 4)
			default:
				b = b.twin()
			}
			if step%100 == 0 {
				b.state()
			}
			if t.Failed() {
				t.Fatalf("P701: seed %d, step %d", seed, step)
			}
		}
		b.state()
	}
}

func TestAClockThatRunsOn(t *testing.T) {
	s := steps(11)
	b := filled(t)
	for now := range uint64(2000) {
		for range s.below(8) {
			b.insert(now+uint64(s.below(120)), int(now))
		}
		if len(b.want.timers) > 0 && s.below(3) == 0 {
			b.cancel(b.want.timers[s.below(len(b.want.timers))].handle)
		}
		b.due(now)
		if t.Failed() {
			t.Fatalf("P701: at %d", now)
		}
	}
	b.state()
}

func TestTheSameCallsAnswerTheSame(t *testing.T) {
	run := func() []int {
		var told []int
		s := steps(5)
		m := New()
		for range 500 {
			switch s.below(4) {
			case 0, 1:
				h, code := m.Insert(uint64(s.below(40)), s.below(9))
				told = append(told, h, int(code))
			case 2:
				m.Cancel(s.below(200))
			case 3:
				told = append(told, m.Due(uint64(s.below(20)))...)
			}
			told = append(told, m.Len())
		}
		return told
	}
	if !slices.Equal(run(), run()) {
		t.Error("P3: the same calls answer otherwise")
	}
}
