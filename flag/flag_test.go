package flag

import (
	"cmp"
	"math"
	"slices"
	"testing"

	"detent/api"
	"detent/order"
)

type item = order.Item

const all = math.MaxUint32

var (
	bothWays  = []bool{false, true}
	bothModes = []int{And, Or}
)

// outside are neither tasks nor priorities. Many of them differ from one inside by a power of two.
var outside = []int{
	math.MinInt, math.MinInt + 1, -1 << 32, -1<<32 + 1, math.MinInt32, -256, -17, -16, -2, -1, 0,
	17, 18, 32, 33, 256, 257, 1<<16 + 1, math.MaxInt32, 1 << 32, 1<<32 + 1, math.MaxInt - 1, math.MaxInt,
}

// noModes are neither And nor Or.
var noModes = []int{
	math.MinInt, math.MinInt + 1, -1 << 32, -1<<32 + 1, math.MinInt32, -256, -255, -2, -1,
	2, 3, 4, 256, 257, 1 << 16, 1<<16 + 1, math.MaxInt32, 1 << 32, 1<<32 + 1, math.MaxInt - 1, math.MaxInt,
}

// wants are of one bit, of several, and of all.
var wants = []uint32{1, 2, 1 << 15, 1 << 16, 1 << 31, 3, 6, 1<<31 | 1, 0x00ff00f0, 0xaaaaaaaa, 0x55555555, all - 1, all >> 1, all}

// waiter is a task that waits, or would.
type waiter struct {
	item
	want uint32
	mode int
}

func by(task, pri int, want uint32, mode int) waiter {
	return waiter{item{ID: task, Pri: pri}, want, mode}
}

// answer is what Wait and Poll return.
type answer struct {
	bits uint32
	met  bool
	code api.Code
}

func answered(bits uint32, met bool, code api.Code) answer {
	return answer{bits, met, code}
}

var waiting = answer{0, false, api.OK}

// model is the chapter's eventflag in its plainest form: those who wait stand in the order in which they came, each with what it waits for, and are sorted when they are asked for.
type model struct {
	byPri, many, clear bool
	bits               uint32
	came               []waiter
}

// meets goes through the bits one by one.
func meets(bits, want uint32, mode int) bool {
	every, some := true, false
	for at := range 32 {
		if want>>at&1 == 1 {
			has := bits>>at&1 == 1
			every, some = every && has, some || has
		}
	}
	return mode == And && every || mode == Or && some
}

func (m *model) at(task int) int {
	return slices.IndexFunc(m.came, func(w waiter) bool { return w.ID == task })
}

func (m *model) row() []waiter {
	row := slices.Clone(m.came)
	if m.byPri {
		slices.SortStableFunc(row, func(a, b waiter) int { return cmp.Compare(a.Pri, b.Pri) })
	}
	return row
}

func (m *model) raise(bits ...uint32) []Woken {
	for _, more := range bits {
		m.bits |= more
	}
	var woken []Woken
	for _, w := range m.row() {
		if meets(m.bits, w.want, w.mode) {
			woken = append(woken, Woken{w.ID, m.bits})
			m.drop(w.ID)
			if m.clear {
				m.bits = 0
				return woken
			}
		}
	}
	return woken
}

func (m *model) poll(want uint32, mode int) answer {
	switch {
	case want == 0 || mode != 0 && mode != 1:
		return answer{code: api.Par}
	case !m.many && len(m.came) > 0:
		return answer{code: api.Iluse}
	case !meets(m.bits, want, mode):
		return waiting
	}
	got := answer{m.bits, true, api.OK}
	if m.clear {
		m.bits = 0
	}
	return got
}

func inside(n int) bool { return n >= 1 && n <= 16 }

func (m *model) wait(w waiter) answer {
	got := m.poll(w.want, w.mode)
	switch {
	case got != waiting:
		return got
	case !inside(w.ID) || !inside(w.Pri):
		return answer{code: api.Par}
	case m.at(w.ID) >= 0:
		return answer{code: api.Obj}
	}
	m.came = append(m.came, w)
	return waiting
}

func (m *model) drop(task int) bool {
	at := m.at(task)
	if at >= 0 {
		m.came = slices.Delete(m.came, at, at+1)
	}
	return at >= 0
}

func (m *model) change(task, pri int) bool {
	at := m.at(task)
	if at < 0 || !inside(pri) {
		return false
	}
	w := m.came[at]
	w.Pri = pri
	if m.byPri { // behind its new equals
		m.drop(task)
		m.came = append(m.came, w)
	} else {
		m.came[at] = w
	}
	return true
}

func (m *model) apart() *model {
	c := *m
	c.came = slices.Clone(m.came)
	return &c
}

// both is an eventflag beside its model: each call is made on the two, the answers are held against each other, and then all that can be observed.
type both struct {
	t    *testing.T
	real *Flag
	want *model
}

func made(t *testing.T, byPri, many, clear bool, bits uint32) *both {
	t.Helper()
	f := NewFlag(byPri, many, clear, bits)
	if f == nil || f.Queue == nil {
		t.Fatalf("P1201: NewFlag(%v, %v, %v, %x) is %v", byPri, many, clear, bits, f)
	}
	b := &both{t, f, &model{byPri: byPri, many: many, clear: clear, bits: bits}}
	b.state()
	return b
}

// waited is an eventflag with many, with no bits, for which these wait.
func waited(t *testing.T, byPri, clear bool, tasks ...waiter) *both {
	t.Helper()
	b := made(t, byPri, true, clear, 0)
	for _, w := range tasks {
		b.expectWait(w, waiting)
	}
	if b.real.Len() != len(tasks) {
		t.Fatalf("P1201: of %v wait %v", tasks, b.real.Row())
	}
	return b
}

func (b *both) wait(w waiter) {
	b.t.Helper()
	got, want := answered(b.real.Wait(w.ID, w.Pri, w.want, w.mode)), b.want.wait(w)
	if got != want {
		b.t.Errorf("P1201: Wait of %v is %v, not %v", w, got, want)
	}
	b.state()
}

func (b *both) poll(want uint32, mode int) {
	b.t.Helper()
	got, right := answered(b.real.Poll(want, mode)), b.want.poll(want, mode)
	if got != right {
		b.t.Errorf("P1201: Poll(%x, %d) is %v, not %v", want, mode, got, right)
	}
	b.state()
}

func (b *both) raise(bits ...uint32) {
	b.t.Helper()
	got, want := b.real.Raise(bits...), b.want.raise(bits...)
	if !slices.Equal(got, want) {
		b.t.Errorf("P1201: Raise(%x) is %v, not %v", bits, got, want)
	}
	b.state()
}

func (b *both) lower(mask uint32) {
	b.t.Helper()
	b.real.Lower(mask)
	b.want.bits &= mask
	b.state()
}

func (b *both) drop(task int) {
	b.t.Helper()
	if got, want := b.real.Drop(task), b.want.drop(task); got != want {
		b.t.Errorf("P1201: Drop(%d) is %v", task, got)
	}
	b.state()
}

func (b *both) remove(task int) {
	b.t.Helper()
	if got, want := b.real.Remove(task), b.want.drop(task); got != want {
		b.t.Errorf("P1201: Remove(%d) is %v", task, got)
	}
	b.state()
}

func (b *both) change(task, pri int) {
	b.t.Helper()
	if got, want := b.real.Change(task, pri), b.want.change(task, pri); got != want {
		b.t.Errorf("P1201: Change(%d, %d) is %v", task, pri, got)
	}
	b.state()
}

func (b *both) apart() *both {
	b.t.Helper()
	f := b.real.Apart()
	if f == nil || f == b.real || f.Queue == b.real.Queue {
		b.t.Fatal("P1201: the copy is nil, or it is the eventflag itself or has its Queue")
	}
	copied := &both{b.t, f, b.want.apart()}
	copied.state()
	b.state()
	return copied
}

// state asks for all that can be observed; what the tasks wait for is asked of copies.
func (b *both) state() {
	b.t.Helper()
	var row []item
	for _, w := range b.want.row() {
		row = append(row, w.item)
	}
	b.expect(b.want.bits, row...)
	if n := b.real.Len(); n != len(row) {
		b.t.Errorf("P1201: Len is %d, of %v", n, row)
	}
	first, there := b.real.First()
	if there != (len(row) > 0) || there && first != row[0] {
		b.t.Errorf("P1201: First is %v, %v, of %v", first, there, row)
	}
	for task := 0; task <= 17; task++ {
		at := b.want.at(task)
		pri := 0
		if at >= 0 {
			pri = b.want.came[at].Pri
		}
		if got, ok := b.real.Pri(task); got != pri || ok != (at >= 0) || b.real.Has(task) != ok {
			b.t.Errorf("P1201: Pri(%d) is %d, %v, of %v", task, got, ok, row)
		}
	}
	for _, bits := range []uint32{0, 1, 0xaaaaaaaa, all} {
		got, want := b.real.Apart().Raise(bits), b.want.apart().raise(bits)
		if !slices.Equal(got, want) {
			b.t.Errorf("P1201: a Raise of %x would release %v, not %v", bits, got, want)
		}
	}
}

// expect is of Bits and of those who wait, as the test itself writes them.
func (b *both) expect(bits uint32, row ...item) {
	b.t.Helper()
	if got := b.real.Row(); b.real.Bits != bits || !slices.Equal(got, row) {
		b.t.Errorf("P1201: Bits is %x and %v wait, not %x and %v", b.real.Bits, got, bits, row)
	}
}

// The calls whose names begin with expect have answers that the test itself writes. They ask a copy first.
func (b *both) expectWait(w waiter, want answer) {
	b.t.Helper()
	if got := answered(b.real.Apart().Wait(w.ID, w.Pri, w.want, w.mode)); got != want {
		b.t.Errorf("P1201: Wait of %v is %v, not %v", w, got, want)
	}
	b.wait(w)
}

func (b *both) expectPoll(want uint32, mode int, right answer) {
	b.t.Helper()
	if got := answered(b.real.Apart().Poll(want, mode)); got != right {
		b.t.Errorf("P1201: Poll(%x, %d) is %v, not %v", want, mode, got, right)
	}
	b.poll(want, mode)
}

func (b *both) expectRaise(bits []uint32, woken ...Woken) {
	b.t.Helper()
	if got := b.real.Apart().Raise(bits...); !slices.Equal(got, woken) {
		b.t.Errorf("P1201: Raise(%x) is %v, not %v", bits, got, woken)
	}
	b.raise(bits...)
}

func (b *both) expectDrop(task int, want bool) {
	b.t.Helper()
	if got := b.real.Apart().Drop(task); got != want {
		b.t.Errorf("P1201: Drop(%d) is %v", task, got)
	}
	b.drop(task)
}

// one is the argument of a Raise of these bits alone.
func one(bits uint32) []uint32 { return []uint32{bits} }

// released are these tasks as a Raise returns them, all with these bits.
func released(bits uint32, tasks ...int) []Woken {
	var woken []Woken
	for _, task := range tasks {
		woken = append(woken, Woken{task, bits})
	}
	return woken
}

func TestTheLimits(t *testing.T) {
	if api.MaxTasks != 16 || api.MaxPri != 16 || And != 0 || Or != 1 {
		t.Fatal("the tests speak of 16 tasks, 16 priorities, and the modes 0 and 1")
	}
}

func TestTheChaptersExample(t *testing.T) {
	f := NewFlag(false, true, true, 0)
	for _, w := range []waiter{by(1, 1, 3, And), by(2, 1, 1, Or), by(3, 1, 1, Or)} {
		if got := answered(f.Wait(w.ID, w.Pri, w.want, w.mode)); got != waiting {
			t.Errorf("P1201: Wait of %v is %v", w, got)
		}
	}
	if woken := f.Raise(1); !slices.Equal(woken, []Woken{{Task: 2, Bits: 1}}) {
		t.Errorf("P1201: Raise(1) releases %v", woken)
	}
	if f.Bits != 0 || f.Len() != 2 || !f.Has(1) || !f.Has(3) {
		t.Errorf("P1201: Bits is %x, and %v wait", f.Bits, f.Row())
	}
}

func TestNewFlag(t *testing.T) {
	for _, byPri := range bothWays {
		for _, many := range bothWays {
			for _, clear := range bothWays {
				for _, bits := range append([]uint32{0}, wants...) {
					b := made(t, byPri, many, clear, bits)
					b.expect(bits)
					b.raise()
					b.expect(bits) // nobody waits: clear has no say
				}
			}
		}
	}
}

func TestNewFlagsShareNothing(t *testing.T) {
	for _, byPri := range bothWays {
		a, b := made(t, byPri, true, true, 1), made(t, byPri, true, true, 1)
		a.poll(1, And)
		a.wait(by(1, 1, 2, Or))
		b.state()
		b.raise(4)
		b.wait(by(1, 1, 16, And))
		a.raise(2)
		b.expect(5, item{ID: 1, Pri: 1})
		made(t, byPri, true, true, 1).expect(1)
	}
}

// Each want is asked of the bits that are it, that contain it, that miss it by one bit, that are one of its bits, and that have none of it.
func TestBitsThatMeetAWant(t *testing.T) {
	check := func(bits, want uint32, and, or bool) {
		t.Helper()
		for mode, met := range map[int]bool{And: and, Or: or} {
			right := waiting
			if met {
				right = answer{bits, true, api.OK}
			}
			f := NewFlag(false, true, false, bits)
			if got := answered(f.Poll(want, mode)); got != right {
				t.Errorf("P1201: of %x, Poll(%x, %d) is %v, not %v", bits, want, mode, got, right)
			}
			if got := answered(f.Wait(1, 1, want, mode)); got != right || f.Has(1) == met {
				t.Errorf("P1201: of %x, Wait for %x, %d is %v, not %v", bits, want, mode, got, right)
			}
			raised := NewFlag(false, true, false, 0)
			raised.Wait(1, 1, want, mode)
			if woken := raised.Raise(bits); (len(woken) == 1) != met || met && woken[0] != (Woken{1, bits}) {
				t.Errorf("P1201: Raise(%x) for %x, %d is %v", bits, want, mode, woken)
			}
		}
	}
	for _, want := range wants {
		check(want, want, true, true)
		check(all, want, true, true)
		check(^want, want, false, false)
		check(0, want, false, false)
		for at := range 32 {
			bit := uint32(1) << at
			if want&bit == 0 {
				check(want|bit, want, true, true)
				check(bit, want, false, false)
				continue
			}
			check(all&^bit, want, false, want != bit)
			check(want&^bit, want, false, want != bit)
			check(bit, want, want == bit, true)
		}
	}
}

func TestAskingWithAWantThatIsMet(t *testing.T) {
	for _, many := range bothWays {
		for _, mode := range bothModes {
			for _, want := range wants {
				got := answer{all, true, api.OK}
				kept, spent := made(t, true, many, false, all), made(t, true, many, true, all)
				kept.expectWait(by(1, 1, want, mode), got)
				kept.expect(all)
				kept.expectPoll(want, mode, got)
				kept.expect(all)
				spent.expectWait(by(1, 1, want, mode), got)
				spent.expect(0) // all bits, not only those of the want
				spent.expectPoll(want, mode, waiting)
				spent.raise(all)
				spent.expectPoll(want, mode, got)
				spent.expect(0)
				spent.expectWait(by(1, 1, want, mode), waiting)
				spent.expect(0, item{ID: 1, Pri: 1})
			}
		}
	}
}

func TestAskingWithAWantThatIsNotMet(t *testing.T) {
	for _, many := range bothWays {
		for _, clear := range bothWays {
			b := made(t, false, many, clear, 0xf0)
			b.expectPoll(0x0f, Or, waiting)
			b.expectPoll(0xf8, And, waiting)
			b.expect(0xf0) // a Poll does not wait, and clears nothing
			b.expectWait(by(7, 2, 0xf8, And), waiting)
			b.expect(0xf0, item{ID: 7, Pri: 2})
		}
	}
}

func TestWaitForEveryTaskWithEveryPriority(t *testing.T) {
	for _, byPri := range bothWays {
		for task := 1; task <= 16; task++ {
			for pri := 1; pri <= 16; pri++ {
				b := made(t, byPri, false, true, 0)
				b.expectWait(by(task, pri, 1, And), waiting)
				b.expect(0, item{ID: task, Pri: pri})
				b.expectRaise(one(5), Woken{task, 5})
				b.expect(0)
			}
		}
	}
}

// The chapter asks nothing of task and pri as long as nobody is added to the Queue.
func TestWaitThatIsMetAsksNothingOfTheTask(t *testing.T) {
	for _, many := range bothWays {
		for _, n := range outside {
			b := made(t, true, many, false, 6)
			for _, w := range []waiter{by(n, 1, 2, And), by(1, n, 2, Or), by(n, n, 6, And)} {
				b.expectWait(w, answer{6, true, api.OK})
			}
			b.expect(6)
		}
	}
	b := waited(t, true, false, by(3, 3, 1, And))
	b.raise(2)
	b.expectWait(by(3, 9, 2, And), answer{2, true, api.OK}) // it waits already, and goes on waiting for 1
	b.expect(2, item{ID: 3, Pri: 3})
	b.expectRaise(one(1), Woken{3, 3})
}

func TestRaiseAddsAllItsBits(t *testing.T) {
	for _, clear := range bothWays {
		b := made(t, false, true, clear, 0x100)
		for _, c := range []struct {
			bits []uint32
			have uint32
		}{{nil, 0x100}, {one(0), 0x100}, {one(1), 0x101}, {one(1), 0x101}, {[]uint32{2, 4}, 0x107}, {[]uint32{0x18, 0, 0x11, 1 << 31}, 0x8000011f}, {one(all), all}, {nil, all}} {
			b.expectRaise(c.bits)
			b.expect(c.have)
		}
	}
}

// All the bits are there before the first task is looked at.
func TestRaiseAddsItsBitsAllAtOnce(t *testing.T) {
	b := waited(t, false, false, by(1, 1, 1, Or), by(2, 1, 7, And), by(3, 1, 4, And))
	b.expectRaise([]uint32{1, 2, 4}, released(7, 1, 2, 3)...)
	b.expect(7)
	b = waited(t, false, true, by(2, 1, 7, And), by(1, 1, 1, Or), by(3, 1, 4, And))
	b.expectRaise([]uint32{1, 2, 4}, Woken{2, 7})
	b.expect(0, item{ID: 1, Pri: 1}, item{ID: 3, Pri: 1})
}

func TestRaiseLeavesItsArguments(t *testing.T) {
	whole := []uint32{1, 2, 4, 8}
	b := waited(t, false, true, by(1, 1, 3, And))
	b.expectRaise(whole[:2], Woken{1, 3})
	if !slices.Equal(whole, []uint32{1, 2, 4, 8}) {
		t.Errorf("P2: the argument is %v now", whole)
	}
}

func TestRaiseReturnsNewMemory(t *testing.T) {
	b := waited(t, false, false, by(1, 1, 1, And), by(2, 1, 1, And), by(3, 1, 1, And), by(4, 1, 2, And))
	b.want.raise(1)
	first := b.real.Raise(1)
	kept := slices.Clone(first)
	row := b.real.Row()
	b.expectRaise(one(2), Woken{4, 3})
	if !slices.Equal(first, kept) {
		t.Errorf("P2: what Raise returned first is %v now", first)
	}
	first = first[:cap(first)]
	for i := range first {
		first[i] = Woken{9, 9}
	}
	row = row[:cap(row)]
	for i := range row {
		row[i] = item{ID: 9, Pri: 9}
	}
	b.state()
}

func TestRaiseThatReleasesNobody(t *testing.T) {
	for _, byPri := range bothWays {
		for _, clear := range bothWays {
			b := waited(t, byPri, clear, by(1, 1, 3, And), by(2, 1, 12, And), by(3, 1, 0x60, Or))
			row := b.real.Row()
			b.expectRaise(nil)
			b.expect(0, row...)
			b.expectRaise([]uint32{1, 4, 0x10})
			b.expect(0x15, row...) // nobody is released, so clear clears nothing
			b.expectRaise(one(0))
			b.expect(0x15, row...)
		}
	}
}

func TestRaiseThatReleasesOne(t *testing.T) {
	for _, byPri := range bothWays {
		for at := range 5 {
			b := waited(t, byPri, false, by(3, 5, 1, Or), by(1, 2, 2, And), by(4, 5, 4, Or), by(16, 1, 8, And), by(2, 2, 16, Or))
			task := []int{3, 1, 4, 16, 2}[at]
			rest := slices.DeleteFunc(b.real.Row(), func(x item) bool { return x.ID == task })
			b.expectRaise([]uint32{1 << at, 0x100}, Woken{task, 1<<at | 0x100})
			b.expect(1<<at|0x100, rest...)
		}
	}
}

// sameWish are five tasks, in the order in which they come, who want the same.
func sameWish(want uint32, mode int) []waiter {
	return []waiter{by(3, 5, want, mode), by(1, 2, want, mode), by(4, 5, want, mode), by(16, 1, want, mode), by(2, 2, want, mode)}
}

var inOrder = map[bool][]int{false: {3, 1, 4, 16, 2}, true: {16, 1, 2, 3, 4}}

func TestRaiseReleasesSeveralInTheirOrder(t *testing.T) {
	for byPri, tasks := range inOrder {
		for _, mode := range bothModes {
			b := waited(t, byPri, false, sameWish(3, mode)...)
			b.expectRaise([]uint32{1, 2, 8}, released(11, tasks...)...)
			b.expect(11)
			b.expectRaise(one(1)) // each is released once
		}
	}
}

func TestRaiseWithClearReleasesTheFirstAlone(t *testing.T) {
	for byPri, tasks := range inOrder {
		for _, mode := range bothModes {
			b := waited(t, byPri, true, sameWish(3, mode)...)
			for _, task := range tasks {
				b.expectRaise([]uint32{1, 2, 8}, Woken{task, 11})
				if b.real.Bits != 0 {
					t.Errorf("P1201: with clear, Bits is %x", b.real.Bits)
				}
			}
			b.expectRaise(one(11))
			b.expect(11)
		}
	}
}

// With clear no other one is looked at, also if its want would be met by bits that the first one did not want.
func TestClearTakesAllTheBits(t *testing.T) {
	for _, byPri := range bothWays {
		b := waited(t, byPri, true, by(1, 1, 0x10, And), by(2, 2, 1, And), by(3, 3, 2, Or), by(4, 4, 0x11, Or))
		b.expectRaise([]uint32{1, 2}, Woken{2, 3})
		b.expect(0, item{ID: 1, Pri: 1}, item{ID: 3, Pri: 3}, item{ID: 4, Pri: 4})
		b.expectRaise(nil)
		b.expectRaise(one(0x13), Woken{1, 0x13})
		b.expectRaise(one(0x12), Woken{3, 0x12})
		b.expectRaise(one(0x10), Woken{4, 0x10})
		b.expect(0)
	}
}

func TestEqualPrioritiesInTheOrderInWhichTheyCame(t *testing.T) {
	came := []int{16, 1, 15, 2, 14, 3, 13, 4, 12, 5, 11, 6, 10, 7, 9, 8}
	for _, byPri := range bothWays {
		for _, pri := range []int{1, 8, 16} {
			for _, clear := range bothWays {
				b := waited(t, byPri, clear)
				for _, task := range came {
					b.expectWait(by(task, pri, 1, Or), waiting)
				}
				if !clear {
					b.expectRaise(one(1), released(1, came...)...)
					continue
				}
				for _, task := range came {
					b.expectRaise(one(1), Woken{task, 1})
				}
			}
		}
	}
}

func TestAllTasksWaitEachWithItsOwnPriority(t *testing.T) {
	for _, byPri := range bothWays {
		b := waited(t, byPri, false)
		var up, down []int
		for task := 1; task <= 16; task++ {
			b.wait(by(task, 17-task, 1<<31, And))
			up, down = append(up, task), append(down, 17-task)
		}
		if byPri {
			up = down
		}
		b.expectRaise(one(all), released(all, up...)...)
		b.expect(all)
	}
}

func TestThoseNotMetArePassedOverAndKeepTheirPlaces(t *testing.T) {
	for _, byPri := range bothWays {
		b := waited(t, byPri, false, by(1, 1, 1, And), by(2, 2, 2, And), by(3, 3, 5, And), by(4, 4, 6, Or), by(5, 5, 8, Or), by(6, 6, 12, And))
		b.expectRaise(one(2), released(2, 2, 4)...)
		b.expect(2, item{ID: 1, Pri: 1}, item{ID: 3, Pri: 3}, item{ID: 5, Pri: 5}, item{ID: 6, Pri: 6})
		b.expectRaise(one(4))
		b.expect(6, item{ID: 1, Pri: 1}, item{ID: 3, Pri: 3}, item{ID: 5, Pri: 5}, item{ID: 6, Pri: 6})
		b.expectRaise([]uint32{8, 0}, released(14, 5, 6)...)
		b.expectRaise(one(1), released(15, 1, 3)...)
		b.expect(15)
	}
}

// Bits that are lowered before they meet a want do not count towards it.
func TestWantsAreMetByTheBitsOfTheMoment(t *testing.T) {
	b := waited(t, true, false, by(1, 1, 3, And))
	b.raise(1)
	b.lower(^uint32(1))
	b.expectRaise(one(2))
	b.expect(2, item{ID: 1, Pri: 1})
	b.expectRaise(one(1), Woken{1, 3})
}

func TestTasksLeaveThroughThePromotedMethods(t *testing.T) {
	for byPri, tasks := range inOrder {
		for _, gone := range tasks {
			b := waited(t, byPri, false, sameWish(1, And)...)
			b.remove(gone)
			b.remove(gone)
			b.expectDrop(gone, false)
			rest := slices.DeleteFunc(slices.Clone(tasks), func(task int) bool { return task == gone })
			b.expectRaise(one(1), released(1, rest...)...)
		}
		b := waited(t, byPri, true, sameWish(1, Or)...)
		for _, task := range tasks[:4] {
			if got, ok := b.real.Take(); !ok || got.ID != task {
				t.Errorf("P1201: Take is %v, %v, not %d", got, ok, task)
			}
			b.want.drop(task)
			b.state()
		}
		b.expectRaise(one(1), Woken{tasks[4], 1})
		if got, ok := b.real.Take(); ok || got != (item{}) {
			t.Errorf("P1201: Take of none is %v, %v", got, ok)
		}
	}
}

func TestPrioritiesChangeThroughThePromotedMethods(t *testing.T) {
	for byPri, tasks := range map[bool][]int{false: {3, 1, 4, 16, 2}, true: {4, 2, 1, 3, 16}} {
		for _, clear := range bothWays {
			b := waited(t, byPri, clear, sameWish(1, And)...)
			b.change(4, 1)   // higher
			b.change(16, 16) // lower
			b.change(1, 2)   // the same
			b.change(5, 1)   // does not wait
			b.change(3, 0)
			b.change(3, 17)
			b.expectRaise(one(2)) // whoever has changed waits for what it waited for before
			if !clear {
				b.expectRaise(one(1), released(3, tasks...)...)
				continue
			}
			for i, task := range tasks {
				b.expectRaise(one(1), Woken{task, []uint32{3, 1, 1, 1, 1}[i]})
			}
		}
	}
}

func TestWaitingAgainForSomethingElse(t *testing.T) {
	leave := map[string]func(b *both){
		"Raise":  func(b *both) { b.expectRaise(one(3), Woken{5, 3}) },
		"Drop":   func(b *both) { b.expectDrop(5, true) },
		"Remove": func(b *both) { b.remove(5) },
	}
	for how, left := range leave {
		for _, byPri := range bothWays {
			b := waited(t, byPri, true, by(5, 5, 3, And), by(6, 6, 0x100, And), by(7, 6, 0x20, And))
			left(b)
			b.expectWait(by(5, 6, 0x30, Or), waiting) // now behind its equals
			b.expect(0, item{ID: 6, Pri: 6}, item{ID: 7, Pri: 6}, item{ID: 5, Pri: 6})
			b.expectRaise(one(3))
			b.lower(0)
			b.expectRaise(one(0x20), Woken{7, 0x20})
			b.expectRaise(one(0x20), Woken{5, 0x20})
			b.expectWait(by(5, 1, 0x30, And), waiting)
			b.expectRaise(one(0x20))
			b.expectRaise(one(0x10), Woken{5, 0x30})
			if b.real.Has(5) {
				t.Errorf("P1201: after %s, task 5 waits yet", how)
			}
		}
	}
}

func TestLower(t *testing.T) {
	for _, clear := range bothWays {
		b := made(t, false, true, clear, 0xf00f)
		for _, c := range []struct{ mask, have uint32 }{{all, 0xf00f}, {0xf00f, 0xf00f}, {0xff0e, 0xf00e}, {1 << 15, 0x8000}, {all >> 17, 0}, {all, 0}, {0, 0}} {
			b.lower(c.mask)
			b.expect(c.have)
		}
		b.raise(all)
		b.lower(0)
		b.expect(0)
	}
}

func TestLowerReleasesNobody(t *testing.T) {
	for byPri := range inOrder {
		for _, clear := range bothWays {
			b := waited(t, byPri, clear, sameWish(7, And)...)
			row := b.real.Row()
			b.raise(0xf3)
			for _, mask := range []uint32{all, 0x77, 7, 1, 0} {
				b.lower(mask)
				b.expect(0xf3&mask, row...)
			}
			b.real.Bits, b.want.bits = 0xff, 0xff // Bits is open: now all the wants are met
			b.lower(0x0f)
			b.expect(0x0f, row...)
			b.raise() // and here they are looked at
		}
	}
}

func TestDrop(t *testing.T) {
	for byPri, tasks := range inOrder {
		for _, gone := range tasks {
			b := waited(t, byPri, false, sameWish(1, Or)...)
			b.raise(6)
			row := slices.DeleteFunc(b.real.Row(), func(x item) bool { return x.ID == gone })
			b.expectDrop(gone, true)
			b.expect(6, row...)
			b.expectDrop(gone, false)
			b.expectDrop(7, false) // a task that has never waited
			for _, none := range outside {
				b.expectDrop(none, false)
			}
			b.expect(6, row...)
			b.raise(1)
			b.expectDrop(row[0].ID, false) // it was released
			b.expect(7)
		}
	}
	empty := made(t, false, false, false, 1)
	for _, none := range append([]int{1, 16}, outside...) {
		empty.expectDrop(none, false)
	}
	empty.expect(1)
}

func TestOneTaskAtATime(t *testing.T) {
	refused := answer{code: api.Iluse}
	for _, byPri := range bothWays {
		for _, clear := range bothWays {
			b := made(t, byPri, false, clear, 2)
			b.expectPoll(2, And, answer{2, true, api.OK})
			b.raise(2)
			b.expectWait(by(1, 1, 2, Or), answer{2, true, api.OK})
			b.raise(2)
			b.expectWait(by(1, 4, 1, And), waiting)
			for _, mode := range bothModes {
				for _, want := range []uint32{1, 2, 3, all} { // also if it is met
					b.expectWait(by(2, 1, want, mode), refused)
					b.expectWait(by(1, 4, want, mode), refused) // the one that waits: not Obj
					b.expectPoll(want, mode, refused)
				}
			}
			for _, n := range outside { // Iluse comes before the codes of Queue.Add
				b.expectWait(by(n, 1, 8, And), refused)
				b.expectWait(by(1, n, 8, And), refused)
			}
			b.expect(2, item{ID: 1, Pri: 4})
			b.expectRaise(one(1), Woken{1, 3})
			b.lower(0)
			for _, leave := range []func(){func() { b.drop(3) }, func() { b.remove(3) }, func() { b.raise(all); b.lower(0) }} {
				b.expectWait(by(3, 3, 1<<31, And), waiting)
				b.expectWait(by(4, 3, 1<<31, And), refused)
				leave()
				b.expectPoll(1, Or, waiting)
			}
			b.expectWait(by(4, 3, 1<<31, And), waiting)
		}
	}
}

func TestManyTasksAtATime(t *testing.T) {
	for _, clear := range bothWays {
		b := waited(t, true, clear, by(1, 1, 1, And))
		b.raise(2)
		b.expectPoll(4, Or, waiting)
		b.expectWait(by(2, 1, 4, Or), waiting)
		b.expectPoll(2, Or, answer{2, true, api.OK})
		b.raise(2)
		b.expectWait(by(3, 1, 2, And), answer{2, true, api.OK})
		if b.real.Len() != 2 {
			t.Errorf("P1201: %v wait", b.real.Row())
		}
	}
}

func TestWantsAndModesThatMayNotBe(t *testing.T) {
	refused := answer{code: api.Par}
	for _, clear := range bothWays {
		for _, many := range bothWays {
			b := made(t, true, many, clear, 0xff)
			some := made(t, true, many, clear, 0)
			some.wait(by(4, 4, 0x100, Or))
			some.raise(0xff)
			for _, b := range []*both{b, some} { // where a task waits and many is false, Par comes before Iluse
				row := b.real.Row()
				for _, mode := range append([]int{And, Or}, noModes...) {
					b.expectPoll(0, mode, refused)
					b.expectWait(by(1, 1, 0, mode), refused)
					b.expectWait(by(4, 1, 0, mode), refused)
					b.expectWait(by(0, 17, 0, mode), refused)
				}
				for _, mode := range noModes {
					for _, want := range []uint32{1, 3, 0x100, all} {
						b.expectPoll(want, mode, refused)
						b.expectWait(by(1, 1, want, mode), refused)
						b.expectWait(by(4, 1, want, mode), refused)
					}
				}
				b.expect(0xff, row...)
			}
		}
	}
}

func TestTasksAndPrioritiesThatMayNotBe(t *testing.T) {
	for _, byPri := range bothWays {
		for _, many := range bothWays {
			b := made(t, byPri, many, true, 6)
			if many {
				b.wait(by(3, 3, 8, And))
			}
			row := b.real.Row()
			for _, bad := range outside {
				for _, other := range append([]int{1, 3, 16}, outside...) {
					b.expectWait(by(bad, other, 1, And), answer{code: api.Par})
					b.expectWait(by(other, bad, 7, And), answer{code: api.Par}) // also for a task that waits: Par comes before Obj
				}
			}
			b.expect(6, row...)
		}
	}
}

func TestATaskThatWaitsAlready(t *testing.T) {
	for _, byPri := range bothWays {
		for _, clear := range bothWays {
			b := waited(t, byPri, clear, by(3, 5, 3, And), by(4, 2, 8, Or))
			b.raise(1)
			row := b.real.Row()
			for pri := 1; pri <= 16; pri++ {
				for _, mode := range bothModes {
					b.expectWait(by(3, pri, 0x10, mode), answer{code: api.Obj})
					b.expectWait(by(4, pri, 0x10, mode), answer{code: api.Obj})
				}
			}
			b.expect(1, row...)
			b.expectRaise(one(0x10)) // it waits for what it waited for
			b.expectRaise(one(2), Woken{3, 0x13})
		}
	}
}

func TestApartWithTasksThatWait(t *testing.T) {
	for byPri, tasks := range inOrder {
		for _, clear := range bothWays {
			b := waited(t, byPri, clear, sameWish(6, And)...)
			b.raise(2)
			row := b.real.Row()
			c := b.apart()
			b.lower(0)
			b.drop(tasks[0])
			b.wait(by(tasks[0], 1, 0x100, Or)) // the same task, another wish
			b.change(tasks[1], 16)
			c.expect(2, row...)
			c.expectWait(by(9, 16, 0x200, And), waiting)
			b.expectWait(by(9, 16, 0x200, Or), waiting)
			if clear {
				c.expectRaise(one(4), Woken{tasks[0], 6})
				c.expect(0, append(row[1:], item{ID: 9, Pri: 16})...)
			} else {
				c.expectRaise(one(4), released(6, tasks...)...)
				c.expect(6, item{ID: 9, Pri: 16})
			}
			b.state()
			if b.real.Len() != 6 || b.real.Bits != 0 {
				t.Errorf("P1201: Bits is %x, and %v wait", b.real.Bits, b.real.Row())
			}
			b.expectRaise(one(0x100), Woken{tasks[0], 0x100})
			c.state()
		}
	}
}

func TestApartWithBits(t *testing.T) {
	b := made(t, false, true, true, 7)
	c := b.apart()
	b.poll(7, And)
	c.expect(7)
	c.lower(3)
	b.expect(0)
	b.raise(8)
	c.expect(3)
	c.real.Bits, c.want.bits = 0x10, 0x10
	b.expect(8)
}

// The copy keeps the order of waiting, many and clear, also if nobody waits when it is made, and if it is the copy of a copy.
func TestApartKeepsTheEventflagsWays(t *testing.T) {
	for byPri, tasks := range inOrder {
		for _, clear := range bothWays {
			b := made(t, byPri, true, clear, 0).apart().apart()
			for _, w := range sameWish(1, Or) {
				b.expectWait(w, waiting)
			}
			if clear {
				b.expectRaise(one(1), Woken{tasks[0], 1})
				b.raise(1)
				b.raise(2)
				b.apart().expectPoll(2, And, answer{2, true, api.OK})
				continue
			}
			b.expectRaise(one(1), released(1, tasks...)...)
			alone := made(t, byPri, false, clear, 0).apart()
			alone.expectWait(by(1, 1, 1, Or), waiting)
			alone.expectWait(by(2, 1, 1, Or), answer{code: api.Iluse})
			alone.apart().expectPoll(1, Or, answer{code: api.Iluse})
			alone.raise(1)
			alone.expectWait(by(2, 1, 1, Or), answer{1, true, api.OK})
			alone.expect(1)
		}
	}
}

func TestTwinIsOfTheQueueAlone(t *testing.T) {
	b := waited(t, true, false, sameWish(1, And)...)
	twin := b.real.Twin()
	twin.Take()
	b.state()
	b.raise(1)
	if n := twin.Len(); n != 4 {
		t.Errorf("P1201: the twin has %d items", n)
	}
}

// On a task that comes through the promoted Add the chapter is silent: it waits, and nothing that it wants is met.
func TestATaskThatComesPastWait(t *testing.T) {
	for _, many := range bothWays {
		f := NewFlag(true, many, false, 0)
		if code := f.Add(9, 1); code != api.OK || !f.Has(9) {
			t.Errorf("P1201: Add is %v", code)
		}
		if code := f.Add(9, 1); code != api.Obj {
			t.Errorf("P1201: a second Add is %v", code)
		}
		if woken := f.Raise(all); len(woken) != 0 || !f.Drop(9) {
			t.Errorf("P1201: Raise releases %v", woken)
		}
	}
	for _, leave := range []func(f *Flag){func(f *Flag) { f.Drop(9) }, func(f *Flag) { f.Raise(1) }} {
		f := NewFlag(true, true, true, 0)
		f.Wait(9, 1, 1, And)
		leave(f)
		f.Add(9, 1)
		if woken := f.Raise(1); len(woken) != 0 || !f.Has(9) {
			t.Errorf("P1201: Raise releases %v, who does not wait for it any more", woken)
		}
	}
}

// A zero Flag is nobody's answer, but P1 holds of it, too.
func TestAZeroFlagDoesNotPanic(t *testing.T) {
	for _, call := range []func(f *Flag){
		func(f *Flag) { f.Raise(1) },
		func(f *Flag) { f.Lower(1) },
		func(f *Flag) { f.Wait(1, 1, 1, And) },
		func(f *Flag) { f.Poll(1, Or) },
		func(f *Flag) { f.Drop(1) },
		func(f *Flag) { f.Apart().Raise(1) },
	} {
		f := new(Flag)
		call(f)
		f.Apart().Wait(2, 2, 8, Or)
		f.Wait(3, 3, 8, And)
		f.Raise(8)
	}
}

// draws are numbers that look drawn by lot, and are the same each time.
type draws uint64

func (d *draws) below(n int) int {
	*d = *d*6364136223846793005 + 1442695040888963407
	return int(uint64(*d>>33) % uint64(n))
}

// bits are few, so that wants are met now and then.
func (d *draws) bits() uint32 {
	drawn := uint32(d.below(8)&d.below(8)) << (10 * d.below(3))
	if d.below(3) == 0 {
		drawn |= 1 << 31
	}
	return drawn
}

func TestManyCallsAsTheModel(t *testing.T) {
	for seed := range 64 {
		d := draws(seed)
		b := made(t, seed&1 == 0, seed&6 != 0, seed&8 == 0, d.bits())
		for range 300 {
			task, pri, mode := d.below(18), 1+d.below([]int{2, 5, 17}[seed%3]), d.below(2)
			switch d.below(12) {
			case 0, 1, 2, 3, 4:
				b.wait(by(task, pri, d.bits(), mode))
			case 5:
				b.poll(d.bits(), mode)
			case 6:
				b.raise(d.bits())
			case 7:
				b.raise([]uint32{d.bits(), d.bits(), d.bits()}[:d.below(4)]...)
			case 8:
				b.lower(^(d.bits() | d.bits()))
			case 9:
				b.drop(task)
			case 10:
				b.remove(task)
				b.change(d.below(18), pri)
			default:
				left := b.apart()
				left.raise(d.bits())
				b.raise(d.bits())
				left.wait(by(task, pri, d.bits(), mode))
				b.state()
			}
		}
	}
}

// P3: the same calls in the same order return the same.
func TestTheSameCallsReturnTheSame(t *testing.T) {
	run := func() []int {
		f := NewFlag(true, true, false, 0)
		var told []int
		d := draws(5)
		for range 300 {
			if d.below(2) == 0 {
				got := answered(f.Wait(d.below(18), d.below(18), d.bits(), d.below(3)))
				told = append(told, int(got.bits), int(got.code), f.Len())
				continue
			}
			for _, w := range f.Raise(d.bits()) {
				told = append(told, w.Task, int(w.Bits))
			}
			f.Lower(d.bits())
		}
		return told
	}
	if a, b := run(), run(); !slices.Equal(a, b) {
		t.Errorf("P3: %v, and then %v", a, b)
	}
}
