package clock

import (
	"cmp"
	"math"
	"math/big"
	"slices"
	"testing"

	"detent/api"
	"detent/heap"
	"detent/nums"
)

const top = math.MaxUint64

var ticks = []int{1, 2, 3, 7, 10, 256, 999, 1000}

// edgeTimes are what Set is given: the edges of a round, and of words of 32 and of 64 bits.
var edgeTimes = []uint64{
	0, 1, 2, 1000, 1<<31 - 1, 1 << 31, 1<<32 - 1, 1 << 32, 1<<47 - 1, 1 << 47,
	nums.Round - 1001, nums.Round - 1000, nums.Round - 999, nums.Round - 15, nums.Round - 2, nums.Round - 1,
	nums.Round, nums.Round + 1, nums.Round + 5, 2*nums.Round - 1, 2 * nums.Round, 1<<63 - 1, 1 << 63, 1<<63 + 3, top - nums.Round, top - 1000, top - 1, top,
}

var wrongRelatives = []int64{-1, -2, -10, -1000, -api.MaxRel, math.MinInt32, math.MinInt64, math.MinInt64 + 1, api.MaxRel + 1, api.MaxRel + 2, 1 << 32, 1<<32 + 5, 1 << 48, math.MaxInt64}

// timer is an entry as chapter 7 has it.
type timer struct {
	at     uint64
	handle int
	arg    int
}

// model is the chapter's clock, in its plainest form: how many Ticks there were, what was set and after how many, and the entries in the order of their handles.
type model struct {
	tick   int
	passed int
	set    uint64
	setAt  int
	timers []timer
	last   int
}

func (m *model) up() uint64 { return uint64(m.passed) * uint64(m.tick) }

// now is in numbers without end, so that the tests do not lean on the arithmetic under test.
func (m *model) now() uint64 {
	x := new(big.Int).SetUint64(m.set)
	x.Add(x, big.NewInt(int64(m.passed-m.setAt)*int64(m.tick)))
	return x.Mod(x, big.NewInt(1<<48)).Uint64()
}

func (m *model) insert(at uint64, arg int) (int, api.Code) {
	if len(m.timers) == 256 {
		return 0, api.Nomem
	}
	m.last++
	m.timers = append(m.timers, timer{at, m.last, arg})
	return m.last, api.OK
}

func (m *model) after(d int64, arg int) (int, api.Code) {
	if d < 0 || d >= 1<<31 {
		return 0, api.Par
	}
	return m.insert(m.up()+uint64(d)+uint64(m.tick), arg)
}

func (m *model) cancel(handle int) bool {
	before := len(m.timers)
	m.timers = slices.DeleteFunc(m.timers, func(e timer) bool { return e.handle == handle })
	return len(m.timers) < before
}

func (m *model) due(now uint64) []int {
	var args []int
	for _, e := range m.sorted() {
		if e.at <= now {
			args = append(args, e.arg)
			m.cancel(e.handle)
		}
	}
	return args
}

func (m *model) sorted() []timer {
	row := slices.Clone(m.timers)
	slices.SortStableFunc(row, func(a, b timer) int { return cmp.Compare(a.at, b.at) })
	return row
}

func (m *model) pass() []int {
	m.passed++
	return m.due(m.up())
}

// both is a clock beside its model: each call is made on the two, and the answers are held against each other.
type both struct {
	t    *testing.T
	real *Clock
	want *model
}

// made is a new clock, of a tick that must be taken.
func made(t *testing.T, tic int) *both {
	t.Helper()
	c, code := NewClock(tic)
	if c == nil || code != api.OK {
		t.Fatalf("P801: NewClock(%d) is %v, %v", tic, c, code)
	}
	return &both{t, c, &model{tick: tic}}
}

func (b *both) set(time uint64) {
	b.t.Helper()
	b.real.Set(time)
	b.want.set, b.want.setAt = time, b.want.passed
	b.summary()
}

func (b *both) after(d int64, arg int) {
	b.t.Helper()
	h, code := b.real.After(d, arg)
	wantHandle, wantCode := b.want.after(d, arg)
	if h != wantHandle || code != wantCode {
		b.t.Errorf("P801: After(%d, %d) is %d, %v, not %d, %v", d, arg, h, code, wantHandle, wantCode)
	}
	b.summary()
}

func (b *both) tick() {
	b.t.Helper()
	got, want := b.real.Tick(), b.want.pass()
	if !slices.Equal(got, want) {
		b.t.Errorf("P801: Tick to %d, of ticks of %d, is %v, not %v", b.want.up(), b.want.tick, got, want)
	}
	b.summary()
}

func (b *both) ticks(n int) {
	b.t.Helper()
	for range n {
		b.tick()
	}
}

func (b *both) insert(at uint64, arg int) {
	b.t.Helper()
	h, code := b.real.Insert(at, arg)
	wantHandle, wantCode := b.want.insert(at, arg)
	if h != wantHandle || code != wantCode {
		b.t.Errorf("P801: Insert(%d, %d) is %d, %v, not %d, %v", at, arg, h, code, wantHandle, wantCode)
	}
	b.summary()
}

func (b *both) cancel(handle int) {
	b.t.Helper()
	got, want := b.real.Cancel(handle), b.want.cancel(handle)
	if got != want {
		b.t.Errorf("P801: Cancel(%d) is %v", handle, got)
	}
	b.summary()
}

func (b *both) due(now uint64) {
	b.t.Helper()
	got, want := b.real.Due(now), b.want.due(now)
	if !slices.Equal(got, want) {
		b.t.Errorf("P801: Due(%d) is %v, not %v", now, got, want)
	}
	b.summary()
}

// summary asks for what is quick to ask; and twice, because it changes nothing.
func (b *both) summary() {
	b.t.Helper()
	for range 2 {
		if up, now := b.real.Up(), b.real.Now(); up != b.want.up() || now != b.want.now() {
			b.t.Errorf("P801: Up and Now are %d and %d, not %d and %d", up, now, b.want.up(), b.want.now())
		}
		if b.real.Len() != len(b.want.timers) {
			b.t.Errorf("P801: Len is %d, not %d", b.real.Len(), len(b.want.timers))
		}
	}
	at, ok := b.real.Next()
	if row := b.want.sorted(); len(row) == 0 && (at != 0 || ok) {
		b.t.Errorf("P801, P4: Next is %d, %v where there is no entry", at, ok)
	} else if len(row) > 0 && (at != row[0].at || !ok) {
		b.t.Errorf("P801: Next is %d, %v, not %d", at, ok, row[0].at)
	}
}

// state asks for all that can be observed: the entries one by one, and, of a copy, what the next Ticks return, what comes out at all, and the next handle.
func (b *both) state() {
	b.t.Helper()
	b.summary()
	for _, e := range b.want.timers {
		want := int64(e.at - b.want.up())
		if got, ok := b.real.Left(e.handle, b.real.Up()); got != want || !ok {
			b.t.Errorf("P801: Left(%d, Up) is %d, %v, not %d", e.handle, got, ok, want)
		}
	}
	for _, h := range []int{0, -1, b.want.last + 1, math.MinInt, math.MaxInt} {
		if got, ok := b.real.Left(h, 3); got != 0 || ok {
			b.t.Errorf("P801, P4: Left(%d, 3) is %d, %v where it is not there", h, got, ok)
		}
	}
	apart := b.apart()
	apart.ticks(3)
	apart.due(top)
	apart.after(0, 1)
	apart.ticks(2)
}

func (b *both) apart() *both {
	want := *b.want
	want.timers = slices.Clone(b.want.timers)
	return &both{b.t, b.real.Apart(), &want}
}

// full is a clock with 256 entries, some of them of the same time.
func full(t *testing.T, tic int) *both {
	t.Helper()
	b := made(t, tic)
	for i := range 256 {
		b.after(int64(i*37%101), i)
	}
	if b.real.Len() != 256 {
		t.Fatalf("P801: Len is %d, not 256", b.real.Len())
	}
	return b
}

// steps is a row of numbers that is the same in each run.
type steps uint64

func (s *steps) below(n int) int {
	*s = *s*6364136223846793005 + 1442695040888963407
	return int((uint64(*s) >> 33) % uint64(n))
}

func TestNewClockRefusesOtherTicks(t *testing.T) {
	for _, tic := range []int{0, -1, -2, -10, -1000, -1 << 32, math.MinInt, math.MinInt + 1, 1001, 1002, 2000, 1 << 16, math.MaxInt32, 1 << 32, 1<<32 + 1, 1<<32 + 10, math.MaxInt} {
		if c, code := NewClock(tic); c != nil || code != api.Par {
			t.Errorf("P801, P4: NewClock(%d) is %v, %v", tic, c, code)
		}
	}
}

func TestEveryTickFromOneToAThousand(t *testing.T) {
	for tic := 1; tic <= 1000; tic++ {
		b := made(t, tic)
		if b.real.Up() != 0 || b.real.Now() != 0 || b.real.Len() != 0 {
			t.Errorf("P801: a new clock is at %d and %d, with %d entries", b.real.Up(), b.real.Now(), b.real.Len())
		}
		b.tick()
		if b.real.Up() != uint64(tic) || b.real.Now() != uint64(tic) {
			t.Errorf("P801: a tick of %d brings Up to %d and Now to %d", tic, b.real.Up(), b.real.Now())
		}
	}
}

func TestANewClock(t *testing.T) {
	for _, tic := range ticks {
		b := made(t, tic)
		b.state()
		b.ticks(5)
		b.state()
		b.after(0, 9)
		if b.real.Len() != 1 || b.want.last != 1 {
			t.Errorf("P801: Len is %d after the first After", b.real.Len())
		}
		b.state()
	}
}

func TestNewClocksShareNothing(t *testing.T) {
	a, b := made(t, 10), made(t, 10)
	a.after(5, 1)
	a.set(77)
	a.tick()
	b.state()
	b.after(3, 2)
	b.after(3, 3)
	b.set(5)
	a.state()
	a.ticks(3)
	b.state()
}

func TestTheChaptersExample(t *testing.T) {
	c, code := NewClock(10)
	if code != api.OK {
		t.Fatal("P801: NewClock(10)")
	}
	for i, d := range []int64{0, 1, 10, 11, 25} {
		if h, code := c.After(d, i); h != i+1 || code != api.OK {
			t.Errorf("P801: After(%d, %d) is %d, %v", d, i, h, code)
		}
	}
	for i, want := range [][]int{{0}, {1, 2}, {3}, {4}, nil, nil} {
		if x := c.Tick(); !slices.Equal(x, want) {
			t.Errorf("P801: Tick %d is %v, not %v", i+1, x, want)
		}
	}
}

func TestUpCountsTicksWhateverIsSet(t *testing.T) {
	for _, tic := range ticks {
		b := made(t, tic)
		for i := range 50 {
			if b.real.Up() != uint64(i*tic) {
				t.Errorf("P801: Up is %d after %d ticks of %d", b.real.Up(), i, tic)
			}
			if i%3 == 1 {
				b.set(edgeTimes[i%len(edgeTimes)])
			}
			b.tick()
		}
	}
}

func TestNowWithoutASet(t *testing.T) {
	b := made(t, 7)
	for i := range 300 {
		if b.real.Now() != uint64(7*i) {
			t.Errorf("P801: Now is %d after %d ticks of 7", b.real.Now(), i)
		}
		b.tick()
	}
}

func TestSetIsTakenModuloRound(t *testing.T) {
	for _, c := range []struct{ time, want uint64 }{
		{0, 0}, {1, 1}, {nums.Round - 1, nums.Round - 1}, {nums.Round, 0}, {nums.Round + 1, 1}, {1<<48 + 5, 5},
		{2*nums.Round - 1, nums.Round - 1}, {2 * nums.Round, 0}, {1 << 63, 0}, {1<<63 - 1, nums.Round - 1}, {top, nums.Round - 1}, {top - 1, nums.Round - 2},
	} {
		b := made(t, 10)
		for range 3 {
			b.set(c.time)
			if b.real.Now() != c.want {
				t.Errorf("P801: Now is %d after Set(%d), not %d", b.real.Now(), c.time, c.want)
			}
			b.tick()
			if want := nums.Add(c.want, 10); b.real.Now() != want {
				t.Errorf("P801: Now is %d a tick after Set(%d), not %d", b.real.Now(), c.time, want)
			}
		}
	}
}

func TestSetToEveryEdgeAndOn(t *testing.T) {
	for _, tic := range ticks {
		for _, time := range edgeTimes {
			b := made(t, tic)
			b.after(int64(3*tic), 8)
			b.set(time)
			b.ticks(3)
			b.set(time)
			b.state()
			b.ticks(4)
			b.state()
		}
	}
}

func TestNowGoesRoundAndOn(t *testing.T) {
	c, _ := NewClock(10)
	c.Set(nums.Round - 25)
	for i, want := range []uint64{nums.Round - 25, nums.Round - 15, nums.Round - 5, 5, 15, 25, 35} {
		if c.Now() != want || c.Up() != uint64(10*i) {
			t.Errorf("P801: Now and Up are %d and %d after %d ticks, not %d", c.Now(), c.Up(), i, want)
		}
		c.Tick()
	}
	c, _ = NewClock(1000)
	c.Set(nums.Round - 1000) // it comes to the end of the round exactly
	for i, want := range []uint64{nums.Round - 1000, 0, 1000, 2000} {
		if c.Now() != want {
			t.Errorf("P801: Now is %d after %d ticks, not %d", c.Now(), i, want)
		}
		c.Tick()
	}
	c, _ = NewClock(1)
	c.Set(top) // a word of 64 bits goes round in the same tick
	for i, want := range []uint64{nums.Round - 1, 0, 1} {
		if c.Now() != want {
			t.Errorf("P801: Now is %d after %d ticks, not %d", c.Now(), i, want)
		}
		c.Tick()
	}
}

func TestEntriesDoNotGoRoundWithNow(t *testing.T) {
	b := made(t, 10)
	b.set(nums.Round - 15)
	for i, d := range []int64{0, 5, 14, 15, 16, 25, 40} {
		b.after(d, i)
	}
	b.state()
	b.ticks(3)
	b.after(12, 99)
	b.state()
	b.ticks(5)
	if b.real.Len() != 0 {
		t.Errorf("P801: %d are left", b.real.Len())
	}
}

func TestSetAgainAndAgainMovesNothing(t *testing.T) {
	plain, set := made(t, 10), made(t, 10)
	for i, d := range []int64{0, 1, 10, 11, 25, 100, 333, api.MaxRel} {
		plain.after(d, i)
		set.after(d, i)
	}
	for i := range 40 {
		for k := range 5 {
			set.set(edgeTimes[(5*i+k)%len(edgeTimes)])
		}
		if set.real.Up() != plain.real.Up() || set.real.Len() != plain.real.Len() {
			t.Fatalf("P801: Set changed Up or the entries, at %d", plain.real.Up())
		}
		set.state()
		a, b := plain.apart(), set.apart()
		if x, y := a.real.Tick(), b.real.Tick(); !slices.Equal(x, y) {
			t.Fatalf("P801: after Set, Tick is %v, not %v", y, x)
		}
		plain.tick()
		set.tick()
		plain.after(int64(i), 100+i)
		set.after(int64(i), 100+i)
	}
}

func TestAfterIsAtUpAndSoMuchAndATick(t *testing.T) {
	for _, tic := range ticks {
		for _, before := range []int{0, 1, 5} {
			b := made(t, tic)
			b.ticks(before)
			for i, d := range []int64{0, 1, int64(tic) - 1, int64(tic), int64(tic) + 1, 2*int64(tic) - 1, 2 * int64(tic), 12345, api.MaxRel - 1, api.MaxRel} {
				h, code := b.real.After(d, 50+i)
				if h != i+1 || code != api.OK {
					t.Errorf("P801: After(%d) is %d, %v", d, h, code)
				}
				b.want.after(d, 50+i)
				if left, ok := b.real.Left(h, b.real.Up()); left != d+int64(tic) || !ok {
					t.Errorf("P801: After(%d) of ticks of %d is %d ahead, %v", d, tic, left, ok)
				}
			}
			b.state()
		}
	}
}

func TestTheTickThatFirstBringsSoMuchAndATickMore(t *testing.T) {
	for _, tic := range ticks {
		for _, d := range []int{0, 1, 2, tic - 1, tic, tic + 1, 2*tic - 1, 2 * tic, 2*tic + 1, 9*tic - 1, 9 * tic, 9*tic + 1} {
			for _, before := range []int{0, 1, 4} {
				b := made(t, tic)
				b.ticks(before)
				b.after(int64(d), 7)
				start := b.real.Up()
				var x []int
				for n := 0; len(x) == 0 && n < 5000; n++ {
					x = b.real.Tick()
				}
				passed := int(b.real.Up() - start)
				if passed < d+tic || passed-tic >= d+tic || !slices.Equal(x, []int{7}) {
					t.Errorf("P801, W3: After(%d) of ticks of %d came after %d, with %v", d, tic, passed, x)
				}
				if x := b.real.Tick(); len(x) != 0 || b.real.Len() != 0 {
					t.Errorf("P801: it came again: %v", x)
				}
			}
		}
	}
}

func TestTheGreatestRelativeTimeIsTickedAway(t *testing.T) {
	const whole = (api.MaxRel + 1000 + 999) / 1000
	c, _ := NewClock(1000)
	c.Set(nums.Round - 5)
	if h, code := c.After(api.MaxRel, 4); h != 1 || code != api.OK {
		t.Fatalf("P801: After(MaxRel) is %d, %v", h, code)
	}
	for i := 1; i < whole; i++ {
		if x := c.Tick(); len(x) != 0 {
			t.Fatalf("P801, W3: it came in tick %d, too soon: %v", i, x)
		}
	}
	if x := c.Tick(); !slices.Equal(x, []int{4}) {
		t.Errorf("P801: it did not come in tick %d: %v", whole, x)
	}
	if c.Up() != 1000*whole || c.Now() != 1000*whole-5 {
		t.Errorf("P801: Up and Now are %d and %d", c.Up(), c.Now())
	}
}

func TestSeveralInOneTickComeByTheirTimesThenAsTheyWereAsked(t *testing.T) {
	b := made(t, 100)
	for i, d := range []int64{50, 10, 50, 1, 100, 10, 99, 1, 50, 0} {
		b.after(d, 200-i) // args that fall, so that they are not what sorts
	}
	c := b.apart()
	if x := c.real.Tick(); !slices.Equal(x, []int{191}) {
		t.Errorf("P801: the first Tick is %v", x)
	}
	if x := c.real.Tick(); !slices.Equal(x, []int{197, 193, 199, 195, 200, 198, 192, 194, 196}) {
		t.Errorf("P801: the second Tick is %v", x)
	}
	b.ticks(3)
	for i := range 256 {
		b.after(7, 1000-i)
	}
	b.ticks(3)
}

func TestSeveralOfOneTimeAskedInDifferentTicks(t *testing.T) {
	b := made(t, 10)
	for i := range 6 {
		b.after(int64(50-10*i), 10-i)
		b.tick()
	}
	b = made(t, 10)
	for i := range 5 {
		b.after(int64(50-10*i), 10-i)
		b.tick()
	}
	if x := b.real.Tick(); !slices.Equal(x, []int{10, 9, 8, 7, 6}) {
		t.Errorf("P801: of one time come %v", x)
	}
}

func TestATickWhereNothingIsDue(t *testing.T) {
	b := made(t, 10)
	if x := b.real.Tick(); len(x) != 0 || b.real.Up() != 10 || b.real.Now() != 10 {
		t.Errorf("P801: Tick of an empty clock is %v, at %d", x, b.real.Up())
	}
	b.want.pass()
	b.after(35, 1)
	b.after(1000, 2)
	for range 4 {
		if x := b.real.Tick(); len(x) != 0 || b.real.Len() != 2 {
			t.Errorf("P801: Tick is %v, with %d entries", x, b.real.Len())
		}
		b.want.pass()
		b.state()
	}
	if x := b.real.Tick(); !slices.Equal(x, []int{1}) {
		t.Errorf("P801: Tick is %v", x)
	}
}

func TestCancelledThroughTheClock(t *testing.T) {
	b := made(t, 10)
	for i, d := range []int64{5, 5, 15, 5, 15} {
		b.after(d, 10+i)
	}
	b.cancel(2)
	b.cancel(2)
	b.cancel(3)
	b.state()
	b.tick()
	if x := b.real.Tick(); !slices.Equal(x, []int{10, 13}) {
		t.Errorf("P801: Tick is %v", x)
	}
	b.want.pass()
	for _, h := range []int{1, 4, 2, 3, 0, -1, 6, math.MinInt, math.MaxInt} { // due, cancelled, or never there
		if b.real.Cancel(h) {
			t.Errorf("P801: Cancel(%d) found something", h)
		}
		b.state()
	}
	b.cancel(5)
	b.ticks(3)
	b.after(0, 1)
	if b.want.last != 6 {
		t.Errorf("P801: the handle is %d", b.want.last)
	}
	b.state()
}

func TestTheMethodsOfTimersThroughTheClock(t *testing.T) {
	c, _ := NewClock(10)
	c.Set(500) // Timers know of Up alone
	if h, code := c.Insert(25, 8); h != 1 || code != api.OK {
		t.Errorf("P801: Insert is %d, %v", h, code)
	}
	if h, code := c.After(5, 9); h != 2 || code != api.OK {
		t.Errorf("P801: After does not use the next handle of Insert: %d, %v", h, code)
	}
	if h, code := c.Insert(top, 7); h != 3 || code != api.OK {
		t.Errorf("P801: Insert does not use the next handle of After: %d, %v", h, code)
	}
	if at, ok := c.Next(); at != 15 || !ok {
		t.Errorf("P801: Next is %d, %v", at, ok)
	}
	for h, want := range map[int]int64{1: 5, 2: -5, 3: -21} {
		if left, ok := c.Left(h, 20); left != want || !ok {
			t.Errorf("P801: Left(%d, 20) is %d, %v, not %d", h, left, ok, want)
		}
	}
	if c.Len() != 3 {
		t.Errorf("P801: Len is %d", c.Len())
	}
	if x := c.Due(24); !slices.Equal(x, []int{9}) || c.Up() != 0 || c.Now() != 500 {
		t.Errorf("P801: Due(24) is %v, at %d and %d", x, c.Up(), c.Now())
	}
	if x := c.Tick(); len(x) != 0 {
		t.Errorf("P801: Tick is %v", x)
	}
	if !c.Cancel(1) || c.Cancel(2) || c.Len() != 1 {
		t.Errorf("P801: Cancel, with %d left", c.Len())
	}
	if at, ok := c.Next(); at != top || !ok {
		t.Errorf("P801: Next is %d, %v", at, ok)
	}
	if x := c.Due(top); !slices.Equal(x, []int{7}) || c.Len() != 0 {
		t.Errorf("P801: Due of the last time is %v", x)
	}
	if at, ok := c.Next(); at != 0 || ok {
		t.Errorf("P801, P4: Next of none is %d, %v", at, ok)
	}
}

func TestInsertedAtAnyTime(t *testing.T) {
	b := made(t, 10)
	b.ticks(2)
	for i, at := range []uint64{0, 19, 20, 21, 30, 31, 40, 1 << 31, nums.Round, nums.Round + 25, 1 << 63, top} {
		b.insert(at, i)
	}
	b.state()
	b.tick() // those whose time was over come now, too
	b.after(0, 50)
	b.ticks(4)
	b.state()
	if b.real.Len() != 5 {
		t.Errorf("P801: %d are left", b.real.Len())
	}
}

func TestTimersOfAClockAreItsEntries(t *testing.T) {
	b := made(t, 10)
	b.after(0, 5)
	timers := b.real.Timers
	if timers.Len() != 1 || timers.Due(10)[0] != 5 || b.real.Len() != 0 {
		t.Error("P801: the Timers within are not the clock's")
	}
	b = made(t, 10)
	b.after(0, 5)
	twin := b.real.Twin()
	twin.Due(top)
	b.state()
}

func TestArgsComeBackAsTheyAre(t *testing.T) {
	args := []int{0, -1, 1, math.MinInt, math.MaxInt, 5, 5, -1 << 33, 1 << 33, 0}
	c, _ := NewClock(10)
	for _, arg := range args {
		c.After(0, arg)
	}
	if x := c.Tick(); !slices.Equal(x, args) {
		t.Errorf("P801: the args are %v, not %v", x, args)
	}
}

func TestWrongRelativeTimes(t *testing.T) {
	for _, tic := range ticks {
		for _, before := range []int{0, 3} {
			b := made(t, tic)
			b.after(50, 1)
			b.ticks(before)
			for _, d := range wrongRelatives {
				if h, code := b.real.After(d, 9); h != 0 || code != api.Par {
					t.Errorf("P801, P4: After(%d) is %d, %v", d, h, code)
				}
				if _, code := nums.Rel(d); code != api.Par {
					t.Errorf("P101: Rel(%d) is %v", d, code)
				}
				b.state() // P5; the next handle among it
			}
			if h, code := b.real.After(0, 2); h != 2 || code != api.OK {
				t.Errorf("P801: a refused After took a handle: the next one is %d, %v", h, code)
			}
		}
	}
}

func TestAClockWith256Entries(t *testing.T) {
	b := full(t, 10)
	for _, d := range []int64{0, 1, 10, api.MaxRel} {
		if h, code := b.real.After(d, 9); h != 0 || code != api.Nomem {
			t.Errorf("P801, P4: the 257th After(%d) is %d, %v", d, h, code)
		}
		b.state()
	}
	b.cancel(100)
	b.after(0, 77)
	if b.want.last != 257 {
		t.Errorf("P801: a refused After took a handle: the next one is %d", b.want.last)
	}
	b.after(0, 78) // refused again
	b.state()
	b.tick() // some are due, and leave room
	if b.real.Len() == 256 {
		t.Error("P801: nothing was due")
	}
	b.after(0, 79)
	b.state()
	b.ticks(12)
	if b.real.Len() != 0 {
		t.Errorf("P801: %d are left", b.real.Len())
	}
}

func TestBothErrorsAtOnce(t *testing.T) {
	b := full(t, 10)
	for _, d := range wrongRelatives {
		if h, code := b.real.After(d, 9); h != 0 || code != api.Par {
			t.Errorf("P801, P6: After(%d) of a full clock is %d, %v", d, h, code)
		}
	}
	b.state()
}

func TestApartGoesItsOwnWay(t *testing.T) {
	for _, n := range []int{0, 1, 5, 255, 256} {
		b := made(t, 10)
		b.set(nums.Round - 35)
		for i := range n {
			b.after(int64(i*37%101), i)
		}
		b.ticks(2)
		apart := b.apart()
		if apart.real == b.real || apart.real.Timers == b.real.Timers {
			t.Fatal("P801, P7: the copy is the clock itself")
		}
		apart.state()

		b.ticks(3) // the elder one's times and entries alone
		apart.state()
		b.set(5)
		apart.state()
		b.after(0, 500)
		b.after(20, 501)
		apart.state()
		b.cancel(n / 2)
		apart.state()

		third := apart.apart()
		apart.tick() // and the copy's
		apart.set(nums.Round + 9)
		b.state()
		third.state()
		apart.after(15, 600)
		apart.insert(3, 601)
		apart.cancel(n)
		b.state()
		third.state()
		apart.due(top)
		b.state()
		third.state()
		apart.ticks(4)
		b.ticks(2)
		apart.state()
		b.state()
		third.ticks(12)
		third.state()
	}
}

func TestApartKeepsTheTickAndTheSet(t *testing.T) {
	for _, tic := range ticks {
		b := made(t, tic)
		b.tick()
		b.set(top)
		b.tick()
		for range 3 {
			b = b.apart()
			b.tick()
			b.after(0, 3)
			b.state()
		}
	}
}

func TestWhatTickReturnsIsNewMemory(t *testing.T) {
	b := made(t, 10)
	for i := range 20 {
		b.after(int64(i), 100+i)
	}
	apart := b.apart()
	b.real.Tick()
	b.want.pass()
	apart.tick()
	first := b.real.Tick()
	b.want.pass()
	second := apart.real.Tick()
	apart.want.pass()
	third := b.real.Tick()
	b.want.pass()
	for _, x := range [][]int{first, third} {
		whole := x[:cap(x)]
		for i := range whole {
			whole[i] = -9
		}
	}
	if !slices.Equal(second, []int{101, 102, 103, 104, 105, 106, 107, 108, 109, 110}) {
		t.Errorf("P2: a change of one answer made another %v", second)
	}
	_ = append(second, -8, -8, -8)
	b.state()
	apart.state()
	for i := range 40 {
		b.after(int64(i), i)
		apart.after(int64(i), i)
	}
	b.ticks(3)
	apart.ticks(3)
	for _, x := range [][]int{first, third} {
		if len(x) == 0 || slices.ContainsFunc(x[:cap(x)], func(arg int) bool { return arg != -9 }) {
			t.Errorf("P2: an answer was kept: it became %v", x[:cap(x)])
		}
	}
}

// A zero Clock is nobody's answer, but P1 holds of it, too.
func TestAZeroClockDoesNotPanic(t *testing.T) {
	calls := []func(c *Clock){
		func(c *Clock) { c.Now() },
		func(c *Clock) { c.Up() },
		func(c *Clock) { c.Set(top) },
		func(c *Clock) { c.After(-1, 1) },
		func(c *Clock) { c.After(5, 1) },
		func(c *Clock) { c.Tick() },
		func(c *Clock) { c.Apart().Tick() },
	}
	for _, call := range calls {
		c := new(Clock)
		call(c)
		c.Apart().After(0, 1)
		c.Tick()
	}
	if c := (&Clock{Timers: heap.New()}); len(c.Tick()) != 0 {
		t.Error("P1: a zero Clock with Timers")
	}
}

func TestManyCallsAsTheModel(t *testing.T) {
	for seed := range 24 {
		s := steps(seed)
		tic := []int{1, 2, 7, 10, 300, 1000}[seed%6]
		spread := []int{1, 3, 20, 300, 5000}[seed%5] * tic
		busy := 2 + s.below(6) // of ten calls; the more, the fuller
		b := made(t, tic)
		for step := range 1500 {
			switch k := s.below(10); {
			case k < busy:
				b.after(int64(s.below(spread+2)-1), s.below(1000)-500)
			case k < 8:
				b.tick()
			case s.below(4) == 0:
				b.set(edgeTimes[s.below(len(edgeTimes))])
			case s.below(3) == 0:
				b.insert(b.want.up()+uint64(s.below(spread)), s.below(1000))
			case s.below(6) == 0:
				b.after(wrongRelatives[s.below(len(wrongRelatives))], 1)
			case s.below(3) == 0:
				b = b.apart()
			default:
				b.cancel(s.below(b.want.last+4) - 1)
			}
			if step%100 == 0 {
				b.state()
			}
			if t.Failed() {
				t.Fatalf("P801: seed %d, step %d", seed, step)
			}
		}
		b.state()
	}
}

func TestTheSameCallsAnswerTheSame(t *testing.T) {
	run := func() []int {
		var told []int
		s := steps(5)
		c, _ := NewClock(10)
		for range 500 {
			switch s.below(4) {
			case 0, 1:
				h, code := c.After(int64(s.below(40)-2), s.below(9))
				told = append(told, h, int(code))
			case 2:
				c.Set(uint64(s.below(200)))
			case 3:
				told = append(told, c.Tick()...)
			}
			told = append(told, c.Len(), int(c.Now()), int(c.Up()))
		}
		return told
	}
	if !slices.Equal(run(), run()) {
		t.Error("P3: the same calls answer otherwise")
	}
}
