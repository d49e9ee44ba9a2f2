package mtx

import (
	"fmt"
	"math"
	"slices"
	"testing"

	"detent/api"
)

// outside are not tasks, not priorities, and not numbers of mutexes. Many of them differ from one inside by a power of two.
var outside = []int{
	math.MinInt, math.MinInt + 1, -1 << 32, -1<<32 + 1, math.MinInt32, -256, -255, -17, -16, -8, -2, -1, 0,
	17, 18, 32, 33, 256, 257, 1<<16 + 1, math.MaxInt32, 1 << 32, 1<<32 + 1, math.MaxInt - 1, math.MaxInt,
}

var attrs = []int{Fifo, ByPri, Inherit, Ceiling}

// byPriority are the Attr of which the waiting tasks have places by Pri.
var byPriority = []int{ByPri, Inherit, Ceiling}

// kind is of an Attr; the Ceil, if it has one, stands in nobody's way.
func kind(attr int) Kind {
	if attr == Ceiling {
		return ceiling(1)
	}
	return Kind{Attr: attr}
}

func ceiling(ceil int) Kind { return Kind{Attr: Ceiling, Ceil: ceil} }

var (
	fifo    = kind(Fifo)
	byPri   = kind(ByPri)
	inherit = kind(Inherit)
)

// model is the chapter's mutexes in their plainest form: the Pri of all tasks are worked out at once, round by round until no round changes any, and those whose Pri has changed are taken out of their line all together before they are put in anew.
type model struct {
	kinds []Kind
	base  [17]int
	owner [9]int
	line  [9][]int
}

func modelOf(kinds ...Kind) *model {
	w := &model{kinds: slices.Clone(kinds)}
	for n := range w.base {
		w.base[n] = 16
	}
	return w
}

func (w *model) isTask(n int) bool  { return n >= 1 && n <= 16 }
func (w *model) isMutex(m int) bool { return m >= 1 && m <= len(w.kinds) }
func (w *model) attr(m int) int     { return w.kinds[m-1].Attr }
func (w *model) ceil(m int) int     { return w.kinds[m-1].Ceil } // 0 of what is no Ceiling: nothing is higher

func (w *model) pris() [17]int {
	pris := w.base
	for {
		was := pris
		for m := 1; m <= len(w.kinds); m++ {
			who := w.owner[m]
			if w.attr(m) == Ceiling {
				pris[who] = min(pris[who], w.ceil(m))
			}
			for _, n := range w.line[m] {
				if w.attr(m) == Inherit {
					pris[who] = min(pris[who], pris[n])
				}
			}
		}
		if pris == was {
			return pris
		}
	}
}

// put brings a task into a line: behind its equals, or in a Fifo behind all.
func (w *model) put(m, task int) {
	pris := w.pris()
	at := 0
	for i, n := range w.line[m] {
		if w.attr(m) == Fifo || pris[n] <= pris[task] {
			at = i + 1
		}
	}
	w.line[m] = slices.Insert(w.line[m], at, task)
}

func (w *model) settle(before [17]int) {
	now := w.pris()
	for m := 1; m <= len(w.kinds); m++ {
		if w.attr(m) == Fifo {
			continue
		}
		var same, changed []int
		for _, n := range w.line[m] {
			if now[n] == before[n] {
				same = append(same, n)
			} else {
				changed = append(changed, n)
			}
		}
		w.line[m] = same
		for _, n := range changed {
			w.put(m, n)
		}
	}
}

func (w *model) waitsFor(task int) int {
	for m := 1; m <= len(w.kinds); m++ {
		if slices.Contains(w.line[m], task) {
			return m
		}
	}
	return 0
}

func (w *model) Base(task int) int {
	if !w.isTask(task) {
		return 0
	}
	return w.base[task]
}

func (w *model) Pri(task int) int {
	if !w.isTask(task) {
		return 0
	}
	return w.pris()[task]
}

func (w *model) SetBase(task, pri int) api.Code {
	if !w.isTask(task) {
		return api.ID
	}
	if pri < 1 || pri > 16 {
		return api.Par
	}
	for m := 1; m <= len(w.kinds); m++ {
		if w.ceil(m) > pri && (w.owner[m] == task || w.waitsFor(task) == m) {
			return api.Iluse
		}
	}
	before := w.pris()
	w.base[task] = pri
	w.settle(before)
	return api.OK
}

func (w *model) Lock(m, task int) (bool, api.Code)    { return w.lock(m, task, true) }
func (w *model) TryLock(m, task int) (bool, api.Code) { return w.lock(m, task, false) }

func (w *model) lock(m, task int, wait bool) (bool, api.Code) {
	switch {
	case !w.isMutex(m) || !w.isTask(task):
		return false, api.ID
	case w.owner[m] == task, w.ceil(m) > w.base[task]:
		return false, api.Iluse
	case w.waitsFor(task) != 0:
		return false, api.Obj
	}
	before := w.pris()
	if w.owner[m] == 0 {
		w.owner[m] = task
		w.settle(before)
		return true, api.OK
	}
	if !wait {
		return false, api.OK
	}
	for holder := w.owner[m]; holder != 0; holder = w.owner[w.waitsFor(holder)] {
		if holder == task {
			return false, api.Iluse
		}
	}
	w.put(m, task)
	w.settle(before)
	return false, api.OK
}

func (w *model) Unlock(m, task int) (int, api.Code) {
	if !w.isMutex(m) || !w.isTask(task) {
		return 0, api.ID
	}
	if w.owner[m] != task {
		return 0, api.Iluse
	}
	before := w.pris()
	w.owner[m] = 0
	if len(w.line[m]) > 0 {
		w.owner[m] = w.line[m][0]
		w.line[m] = slices.Clone(w.line[m][1:])
	}
	w.settle(before)
	return w.owner[m], api.OK
}

func (w *model) Drop(task int) bool {
	m := w.waitsFor(task)
	if m == 0 {
		return false
	}
	before := w.pris()
	w.line[m] = slices.DeleteFunc(w.line[m], func(n int) bool { return n == task })
	w.settle(before)
	return true
}

func (w *model) Free(task int) []int {
	var who []int
	for m := 1; m <= len(w.kinds); m++ {
		if n, code := w.Unlock(m, task); code == api.OK && n != 0 {
			who = append(who, n)
		}
	}
	return who
}

func (w *model) Owner(m int) int {
	if !w.isMutex(m) {
		return 0
	}
	return w.owner[m]
}

func (w *model) Waiting(m int) []int {
	if !w.isMutex(m) {
		return nil
	}
	return w.line[m]
}

func (w *model) Held(task int) []int {
	var held []int
	for m := 1; m <= len(w.kinds); m++ {
		if w.owner[m] == task && w.isTask(task) {
			held = append(held, m)
		}
	}
	return held
}

func (w *model) twin() *model {
	c := *w
	for m := range c.line {
		c.line[m] = slices.Clone(w.line[m])
	}
	return &c
}

// teller is what an All and a model both tell of themselves.
type teller interface {
	Base(task int) int
	Pri(task int) int
	Owner(m int) int
	Waiting(m int) []int
	Held(task int) []int
}

// view is all that can be asked for, with one number more on either side.
type view struct {
	base, pri [18]int
	held      [18]row
	owner     [10]int
	waiting   [10]row
}

// row is a list as a value, so that views can be held against each other.
type row struct {
	count   int
	numbers [17]int
}

func rowOf(l []int) row {
	r := row{count: len(l)}
	copy(r.numbers[:], l)
	return r
}

func told(x teller) view {
	var v view
	for n := range v.base {
		v.base[n], v.pri[n], v.held[n] = x.Base(n), x.Pri(n), rowOf(x.Held(n))
	}
	for m := range v.owner {
		v.owner[m], v.waiting[m] = x.Owner(m), rowOf(x.Waiting(m))
	}
	return v
}

// both is an All beside its model: each call is made on the two, the answers are held against each other, and then all that can be observed.
type both struct {
	t    *testing.T
	real *All
	want *model
}

func made(t *testing.T, kinds ...Kind) *both {
	t.Helper()
	x, code := New(kinds...)
	if x == nil || code != api.OK {
		t.Fatalf("P1501: New(%v) is %v, %v", kinds, x, code)
	}
	b := &both{t, x, modelOf(kinds...)}
	b.state()
	return b
}

// based is made, with the base priority 2n for each task n from 1 to 8.
func based(t *testing.T, kinds ...Kind) *both {
	t.Helper()
	b := made(t, kinds...)
	for n := 1; n <= 8; n++ {
		b.base(n, 2*n)
	}
	return b
}

// is holds an answer against one that the test itself writes.
func is[T comparable](t *testing.T, what string, got, want T) {
	t.Helper()
	if got != want {
		t.Errorf("P1501: %s is %v, not %v", what, got, want)
	}
}

// locked is what Lock and TryLock return, passed what Unlock does.
type locked struct {
	ok   bool
	code api.Code
}

type passed struct {
	who  int
	code api.Code
}

var (
	gets    = locked{ok: true}
	getsNot = locked{} // Lock: the task waits
)

func refused(code api.Code) locked { return locked{code: code} }

func (b *both) state() {
	b.t.Helper()
	if got, want := told(b.real), told(b.want); got != want {
		b.t.Fatalf("P1501, P1502: told\n%+v\nnot\n%+v", got, want)
	}
}

// unchanged makes a call that must change nothing.
func (b *both) unchanged(call func()) {
	b.t.Helper()
	was := told(b.real)
	call()
	if now := told(b.real); now != was {
		b.t.Errorf("P5: there is\n%+v\nand there was\n%+v", now, was)
	}
	b.state()
}

func (b *both) setBase(task, pri int) api.Code {
	b.t.Helper()
	got := b.real.SetBase(task, pri)
	is(b.t, fmt.Sprintf("SetBase(%d, %d)", task, pri), got, b.want.SetBase(task, pri))
	b.state()
	return got
}

func (b *both) lock(m, task int) locked {
	b.t.Helper()
	ok, code := b.real.Lock(m, task)
	wantOK, wantCode := b.want.Lock(m, task)
	is(b.t, fmt.Sprintf("Lock(%d, %d)", m, task), locked{ok, code}, locked{wantOK, wantCode})
	b.state()
	return locked{ok, code}
}

func (b *both) tryLock(m, task int) locked {
	b.t.Helper()
	ok, code := b.real.TryLock(m, task)
	wantOK, wantCode := b.want.TryLock(m, task)
	is(b.t, fmt.Sprintf("TryLock(%d, %d)", m, task), locked{ok, code}, locked{wantOK, wantCode})
	b.state()
	return locked{ok, code}
}

func (b *both) unlock(m, task int) passed {
	b.t.Helper()
	who, code := b.real.Unlock(m, task)
	wantWho, wantCode := b.want.Unlock(m, task)
	is(b.t, fmt.Sprintf("Unlock(%d, %d)", m, task), passed{who, code}, passed{wantWho, wantCode})
	b.state()
	return passed{who, code}
}

func (b *both) drop(task int) bool {
	b.t.Helper()
	got := b.real.Drop(task)
	is(b.t, fmt.Sprintf("Drop(%d)", task), got, b.want.Drop(task))
	b.state()
	return got
}

func (b *both) free(task int) []int {
	b.t.Helper()
	got := b.real.Free(task)
	if want := b.want.Free(task); !slices.Equal(got, want) {
		b.t.Errorf("P1501: Free(%d) is %v, not %v", task, got, want)
	}
	b.state()
	return got
}

func (b *both) twin() *both {
	b.t.Helper()
	x := b.real.Twin()
	if x == nil || x == b.real {
		b.t.Fatal("P1501: Twin is nil or the same")
	}
	twin := &both{b.t, x, b.want.twin()}
	twin.state()
	b.state()
	return twin
}

func (b *both) base(task, pri int) {
	b.t.Helper()
	is(b.t, fmt.Sprintf("SetBase(%d, %d)", task, pri), b.setBase(task, pri), api.OK)
	is(b.t, fmt.Sprintf("Base(%d)", task), b.real.Base(task), pri)
}

// locks are pairs of a mutex that nobody holds and of the task that holds it then.
func (b *both) locks(pairs ...[2]int) {
	b.t.Helper()
	for _, p := range pairs {
		is(b.t, fmt.Sprintf("Lock(%d, %d)", p[0], p[1]), b.lock(p[0], p[1]), gets)
	}
}

// waits is of tasks that wait for a mutex, as they come.
func (b *both) waits(m int, tasks ...int) {
	b.t.Helper()
	for _, n := range tasks {
		is(b.t, fmt.Sprintf("Lock(%d, %d)", m, n), b.lock(m, n), getsNot)
	}
}

func (b *both) refuses(m, task int, code api.Code) {
	b.t.Helper()
	b.unchanged(func() {
		b.t.Helper()
		is(b.t, fmt.Sprintf("Lock(%d, %d)", m, task), b.lock(m, task), refused(code))
	})
}

func (b *both) refusesTry(m, task int, code api.Code) {
	b.t.Helper()
	b.unchanged(func() {
		b.t.Helper()
		is(b.t, fmt.Sprintf("TryLock(%d, %d)", m, task), b.tryLock(m, task), refused(code))
	})
}

func (b *both) refusesBase(task, pri int, code api.Code) {
	b.t.Helper()
	b.unchanged(func() {
		b.t.Helper()
		is(b.t, fmt.Sprintf("SetBase(%d, %d)", task, pri), b.setBase(task, pri), code)
	})
}

func (b *both) refusesUnlock(m, task int, code api.Code) {
	b.t.Helper()
	b.unchanged(func() {
		b.t.Helper()
		is(b.t, fmt.Sprintf("Unlock(%d, %d)", m, task), b.unlock(m, task), passed{code: code})
	})
}

func (b *both) unlocks(m, task, who int) {
	b.t.Helper()
	is(b.t, fmt.Sprintf("Unlock(%d, %d)", m, task), b.unlock(m, task), passed{who: who})
	b.owner(m, who)
}

func (b *both) drops(task int) {
	b.t.Helper()
	is(b.t, fmt.Sprintf("Drop(%d)", task), b.drop(task), true)
}

func (b *both) frees(task int, who ...int) {
	b.t.Helper()
	if got := b.free(task); !slices.Equal(got, who) {
		b.t.Errorf("P1501: Free(%d) is %v, not %v", task, got, who)
	}
	b.held(task)
}

func (b *both) pri(task, want int) {
	b.t.Helper()
	is(b.t, fmt.Sprintf("Pri(%d)", task), b.real.Pri(task), want)
}

func (b *both) owner(m, task int) {
	b.t.Helper()
	is(b.t, fmt.Sprintf("Owner(%d)", m), b.real.Owner(m), task)
}

func (b *both) waiting(m int, tasks ...int) {
	b.t.Helper()
	if got := b.real.Waiting(m); !slices.Equal(got, tasks) {
		b.t.Errorf("P1501, P1502: Waiting(%d) is %v, not %v", m, got, tasks)
	}
}

func (b *both) held(task int, mutexes ...int) {
	b.t.Helper()
	if got := b.real.Held(task); !slices.Equal(got, mutexes) {
		b.t.Errorf("P1501: Held(%d) is %v, not %v", task, got, mutexes)
	}
}

// New

func TestNewMakesWhatItIsGiven(t *testing.T) {
	for _, kinds := range [][]Kind{
		nil,
		{},
		{fifo}, {byPri}, {inherit}, {ceiling(1)}, {ceiling(16)}, {ceiling(7)},
		{fifo, byPri, inherit, ceiling(16)},
		{inherit, inherit, inherit, inherit, inherit, inherit, inherit, inherit},
		{ceiling(16), inherit, fifo, byPri, ceiling(1), inherit, fifo, ceiling(9)},
	} {
		b := made(t, kinds...)
		for m := 1; m <= len(kinds); m++ {
			b.owner(m, 0)
			b.waiting(m)
		}
		for n := 1; n <= 16; n++ {
			b.held(n)
		}
		b.refuses(len(kinds)+1, 16, api.ID)
		for m := 1; m <= len(kinds); m++ {
			b.locks([2]int{m, 16})
		}
	}
}

func TestNewKeepsTheOrderOfTheKinds(t *testing.T) {
	b := made(t, ceiling(9), ceiling(8), fifo, ceiling(16), ceiling(1), inherit, ceiling(4), ceiling(12))
	for m, pri := range map[int]int{1: 9, 2: 8, 3: 16, 4: 16, 5: 1, 6: 16, 7: 4, 8: 12} {
		b.locks([2]int{m, m})
		b.pri(m, pri)
	}
}

func TestNewRefuses(t *testing.T) {
	var wrong []Kind
	for _, n := range outside {
		wrong = append(wrong, Kind{Attr: Ceiling, Ceil: n})
		if n != 0 {
			wrong = append(wrong, Kind{Attr: n}, Kind{Attr: n, Ceil: 1}, Kind{Fifo, n}, Kind{ByPri, n}, Kind{Inherit, n})
		}
	}
	for n := 1; n <= 16; n++ {
		wrong = append(wrong, Kind{Fifo, n}, Kind{ByPri, n}, Kind{Inherit, n}, Kind{4, n}, Kind{-1, n})
	}
	wrong = append(wrong, Kind{Attr: 4}, Kind{Attr: 5}, Kind{Attr: 7})
	for _, k := range wrong {
		for _, l := range [][]Kind{{k}, {k, fifo}, {ceiling(2), k}, {fifo, byPri, inherit, ceiling(3), fifo, byPri, inherit, k}, {k, k}} {
			if a, code := New(l...); a != nil || code != api.Par {
				t.Errorf("P1501: New(%v) is %v, %v", l, a, code)
			}
		}
	}
	for _, count := range []int{9, 10, 16, 17, 256, 257, 1 << 16} {
		if a, code := New(make([]Kind, count)...); a != nil || code != api.Par {
			t.Errorf("P1501: New of %d mutexes is %v, %v", count, a, code)
		}
	}
}

func TestNewKeepsNothingOfItsArguments(t *testing.T) {
	l := []Kind{ceiling(3), inherit, fifo}
	given := slices.Clone(l)
	a, _ := New(l[:2]...)
	if !slices.Equal(l, given) {
		t.Errorf("P2: %v was made of %v", l, given)
	}
	l[0], l[1] = fifo, ceiling(1)
	a.Lock(1, 6)
	a.Lock(2, 7)
	is(t, "Pri of one who holds a Ceiling", a.Pri(6), 3)
	is(t, "Pri of one who holds an Inherit", a.Pri(7), 16)
}

func TestTwoAllsShareNothing(t *testing.T) {
	a, b := made(t, inherit), made(t, inherit)
	a.base(1, 3)
	a.locks([2]int{1, 2})
	a.waits(1, 1)
	b.state()
	b.locks([2]int{1, 1})
	a.state()
}

// Base and SetBase

func TestBaseAtFirst(t *testing.T) {
	for _, b := range []*both{made(t), made(t, ceiling(1), inherit)} {
		for n := 1; n <= 16; n++ {
			is(t, "Base at first", b.real.Base(n), 16)
			b.pri(n, 16)
		}
	}
}

func TestBaseIsNotPri(t *testing.T) {
	b := based(t, ceiling(2), inherit)
	b.locks([2]int{1, 6}, [2]int{2, 5})
	b.waits(2, 1)
	is(t, "Base of one who holds a Ceiling", b.real.Base(6), 12)
	is(t, "Base of one for whom a higher one waits", b.real.Base(5), 10)
	b.pri(6, 2)
	b.pri(5, 2)
}

func TestSetBaseOfAllTasksToAllPriorities(t *testing.T) {
	b := made(t)
	for n := 1; n <= 16; n++ {
		for _, pri := range []int{1, 16, 7, 7, 15, 2, 16, 1, n} {
			b.base(n, pri)
			b.pri(n, pri)
		}
	}
	for n := 1; n <= 16; n++ {
		is(t, "Base in the end", b.real.Base(n), n)
	}
}

func TestSetBaseOfOneWhoWaits(t *testing.T) {
	b := based(t, inherit)
	b.locks([2]int{1, 8})
	b.waits(1, 4, 5)
	b.pri(8, 8)
	b.base(5, 1)
	b.pri(8, 1)
	b.base(5, 16)
	b.pri(8, 8)
	b.base(4, 16)
	b.pri(8, 16)
}

func TestSetBaseOfOneForWhomOthersWait(t *testing.T) {
	b := based(t, inherit)
	b.locks([2]int{1, 8})
	b.waits(1, 4, 5)
	for _, pri := range []int{16, 1, 9, 8, 7} {
		b.base(8, pri)
		b.pri(8, min(pri, 8))
	}
	b.unlocks(1, 8, 4)
	b.pri(8, 7)
}

func TestSetBaseRefusesNumbers(t *testing.T) {
	b := based(t, ceiling(5), inherit)
	b.locks([2]int{1, 6}, [2]int{2, 8})
	b.waits(2, 3)
	for _, n := range outside {
		for _, pri := range append([]int{1, 5, 16}, outside...) {
			b.refusesBase(n, pri, api.ID) // before Par
		}
		for _, task := range []int{1, 3, 6, 8, 16} {
			b.refusesBase(task, n, api.Par) // of 6 before Iluse, too
		}
	}
}

func TestSetBaseRefusesWhatIsHigherThanACeilingHeld(t *testing.T) {
	b := made(t, ceiling(5), ceiling(9), fifo)
	b.locks([2]int{1, 6}, [2]int{2, 6}, [2]int{3, 6})
	for pri := 1; pri <= 8; pri++ {
		b.refusesBase(6, pri, api.Iluse)
	}
	b.base(6, 9)
	b.base(6, 16)
	b.base(7, 1) // another one
	b.unlocks(2, 6, 0)
	for pri := 1; pri <= 4; pri++ {
		b.refusesBase(6, pri, api.Iluse)
	}
	b.base(6, 5)
	b.unlocks(1, 6, 0)
	b.base(6, 1)
	b.held(6, 3)
}

func TestSetBaseRefusesWhatIsHigherThanACeilingWaitedFor(t *testing.T) {
	for _, ceil := range []int{2, 5, 16} {
		b := made(t, fifo, ceiling(ceil))
		b.locks([2]int{2, 6})
		b.waits(2, 7, 8)
		for pri := 1; pri < ceil; pri++ {
			b.refusesBase(6, pri, api.Iluse)
			b.refusesBase(7, pri, api.Iluse)
			b.refusesBase(8, pri, api.Iluse)
		}
		b.base(7, ceil)
		b.base(8, ceil)
		b.waiting(2, 7, 8)
		b.drops(7)
		b.base(7, 1)
		b.unlocks(2, 6, 8)
		b.base(6, 1)
		b.refusesBase(8, ceil-1, api.Iluse)
		b.frees(8)
		b.base(8, 1)
	}
}

// Only the Ceil of what the task itself holds or waits for counts, and its Pri does not.
func TestSetBaseAsksNoOtherCeiling(t *testing.T) {
	b := made(t, ceiling(9), inherit, ceiling(4))
	b.locks([2]int{2, 6}, [2]int{3, 7}, [2]int{1, 8})
	b.waits(2, 7)
	b.pri(6, 4)
	b.base(6, 1)
	b.base(5, 2)
	b.refusesBase(7, 3, api.Iluse)
	b.refusesBase(8, 8, api.Iluse)
}

// Pri

func TestPriOfOneWhoHoldsNothing(t *testing.T) {
	b := based(t, inherit, ceiling(1), fifo)
	b.locks([2]int{1, 8}, [2]int{2, 7})
	b.waits(1, 1)
	b.waits(2, 2)
	for n := 1; n <= 6; n++ {
		b.pri(n, 2*n)
	}
}

func TestPriOfOneWhoHoldsCeilings(t *testing.T) {
	b := based(t, ceiling(8), ceiling(3), ceiling(12), ceiling(5), fifo)
	for _, x := range []struct{ m, pri int }{{3, 12}, {1, 8}, {2, 3}, {4, 3}, {5, 3}} {
		b.locks([2]int{x.m, 6})
		b.pri(6, x.pri)
	}
	for _, x := range []struct{ m, pri int }{{2, 5}, {5, 5}, {4, 8}, {1, 12}, {3, 12}} {
		b.unlocks(x.m, 6, 0)
		b.pri(6, x.pri)
	}
}

func TestPriWithACeilingAtAndBelowTheBase(t *testing.T) {
	b := made(t, ceiling(1), ceiling(16), ceiling(7))
	b.locks([2]int{2, 9})
	b.pri(9, 16)
	b.locks([2]int{1, 9})
	b.pri(9, 1)
	b.base(10, 7)
	b.locks([2]int{3, 10})
	b.pri(10, 7)
	b.base(10, 8)
	b.pri(10, 7)
}

func TestPriOfOneForWhomOthersWait(t *testing.T) {
	b := based(t, inherit, inherit)
	b.locks([2]int{1, 6}, [2]int{2, 6})
	b.pri(6, 12)
	b.waits(1, 7) // lower than it
	b.pri(6, 12)
	b.waits(1, 5)
	b.pri(6, 10)
	b.waits(2, 3)
	b.pri(6, 6)
	b.waits(1, 4)
	b.pri(6, 6)
	b.waits(2, 1)
	b.pri(6, 2)
	b.drops(1)
	b.pri(6, 6)
	b.unlocks(2, 6, 3)
	b.pri(6, 8)
	b.pri(3, 6)
	b.drops(4)
	b.pri(6, 10)
	b.unlocks(1, 6, 5)
	b.pri(6, 12)
	b.pri(5, 10)
}

func TestPriOverSeveralTasks(t *testing.T) {
	b := based(t, inherit, inherit, inherit, inherit, inherit, inherit, inherit, inherit)
	b.base(9, 16)
	for n := 2; n <= 9; n++ {
		b.locks([2]int{n - 1, n})
	}
	for n := 8; n >= 2; n-- { // the higher one waits for the lower one, from the end on
		b.waits(n, n)
		for k := n; k <= 9; k++ {
			b.pri(k, 2*n)
		}
	}
	b.waits(1, 1)
	for n := 1; n <= 9; n++ {
		b.pri(n, 2)
	}
	b.drops(5)
	for n := 1; n <= 9; n++ {
		b.pri(n, []int{0, 2, 2, 2, 2, 2, 12, 12, 12, 12}[n])
	}
	b.base(5, 3)
	b.base(6, 11)
	b.waits(5, 5)
	b.unlocks(3, 4, 3)
	for n := 1; n <= 9; n++ {
		b.pri(n, []int{0, 2, 2, 2, 8, 3, 3, 3, 3, 3}[n])
	}
}

// Whoever waits may have its Pri of a Ceiling, and lends it on.
func TestPriOfOneForWhomAHolderOfACeilingWaits(t *testing.T) {
	b := based(t, inherit, ceiling(2), inherit)
	b.locks([2]int{1, 8}, [2]int{2, 5}, [2]int{3, 7})
	b.waits(1, 5)
	b.pri(8, 2)
	b.waits(3, 8)
	b.pri(7, 2)
	b.unlocks(2, 5, 0)
	b.pri(8, 10)
	b.pri(7, 10)
}

func TestPriIsNotInheritedByOtherMutexes(t *testing.T) {
	for _, attr := range []int{Fifo, ByPri} {
		b := based(t, kind(attr), inherit)
		b.locks([2]int{1, 8}, [2]int{2, 7})
		b.waits(1, 5, 1, 7)
		b.pri(8, 16)
		b.waits(2, 2)
		b.pri(7, 4)
		b.pri(8, 16) // it stops there
		b.unlocks(1, 8, []int{5, 1}[attr])
		b.pri(8, 16)
		b.pri(5, 10)
	}
	b := based(t, ceiling(6), ceiling(1), inherit)
	b.locks([2]int{1, 8}, [2]int{2, 7}, [2]int{3, 5})
	b.waits(1, 7, 5, 4)
	b.pri(7, 1)
	b.pri(8, 6) // of the Ceiling, not of those who wait
	b.waits(3, 1)
	b.pri(5, 2)
	b.pri(8, 6)
}

func TestPriAfterUnlock(t *testing.T) {
	b := based(t, inherit, ceiling(4))
	b.locks([2]int{1, 6}, [2]int{2, 6})
	b.waits(1, 5, 3)
	b.waits(2, 2)
	b.pri(6, 4)
	b.unlocks(2, 6, 2)
	b.pri(6, 6)
	b.pri(2, 4)
	b.unlocks(1, 6, 3)
	b.pri(6, 12)
	b.pri(3, 6)
	b.base(3, 16)
	b.pri(3, 10) // 5 waits for it now
	b.drops(5)
	b.pri(3, 16)
}

// Lock

// byPriAndComing are tasks with base priorities, as they come.
var byPriAndComing = [][2]int{{3, 5}, {1, 12}, {4, 5}, {16, 1}, {2, 12}, {9, 16}, {5, 1}, {7, 5}}

func TestLockLetsWaitInTheOrderOfTheAttr(t *testing.T) {
	for _, attr := range attrs {
		b := made(t, fifo, kind(attr))
		b.locks([2]int{2, 8})
		for _, x := range byPriAndComing {
			b.base(x[0], x[1])
			b.waits(2, x[0])
		}
		order := []int{16, 5, 3, 4, 7, 1, 2, 9}
		if attr == Fifo {
			order = []int{3, 1, 4, 16, 2, 9, 5, 7}
		}
		b.waiting(2, order...)
		b.owner(2, 8)
		holder := 8
		for i, n := range order {
			b.unlocks(2, holder, n)
			b.waiting(2, order[i+1:]...)
			b.held(holder)
			b.held(n, 2)
			holder = n
		}
		b.unlocks(2, holder, 0)
	}
}

// All tasks but the holder wait for one mutex.
func TestLockOfManyTasks(t *testing.T) {
	for _, attr := range attrs {
		b := made(t, kind(attr))
		b.locks([2]int{1, 1})
		var order []int
		for n := 16; n >= 2; n-- {
			b.waits(1, n)
			order = append(order, n)
		}
		b.waiting(1, order...)
	}
}

// It is the Pri that places a task, not its base priority.
func TestLockPlacesByPri(t *testing.T) {
	for _, attr := range byPriority {
		b := based(t, kind(attr), ceiling(4), inherit)
		b.locks([2]int{1, 8}, [2]int{2, 7}, [2]int{3, 6})
		b.waits(3, 1)
		b.waits(1, 2, 5, 7, 6, 3)
		b.waiting(1, 6, 2, 7, 3, 5)
	}
}

func TestLockOfOneThatNobodyHolds(t *testing.T) {
	for _, attr := range attrs {
		b := made(t, kind(attr), fifo)
		b.locks([2]int{1, 6})
		b.owner(1, 6)
		b.owner(2, 0)
		b.held(6, 1)
		b.waiting(1)
		b.unlocks(1, 6, 0)
		b.locks([2]int{1, 7}, [2]int{2, 7})
		b.held(7, 1, 2)
	}
}

func TestLockRefusesNumbers(t *testing.T) {
	b := made(t, inherit, fifo, ceiling(3))
	b.locks([2]int{1, 6})
	b.waits(1, 7)
	for _, n := range append([]int{4, 5, 8, 9, 16}, outside...) {
		for _, task := range append([]int{1, 6, 7, 16}, outside...) {
			b.refuses(n, task, api.ID) // of 7 before Obj
			b.refusesTry(n, task, api.ID)
		}
	}
	for _, n := range outside {
		for m := 1; m <= 3; m++ {
			b.refuses(m, n, api.ID)
			b.refusesTry(m, n, api.ID)
		}
	}
}

func TestLockOfOneThatIsHeldByTheTask(t *testing.T) {
	for _, attr := range attrs {
		b := made(t, kind(attr), fifo)
		b.locks([2]int{1, 6}, [2]int{2, 5})
		b.refuses(1, 6, api.Iluse)
		b.refusesTry(1, 6, api.Iluse)
		b.waits(1, 7)
		b.refuses(1, 6, api.Iluse)
		b.refusesTry(1, 6, api.Iluse)
		b.waits(2, 6)
		b.refuses(1, 6, api.Iluse) // before Obj
		b.refusesTry(1, 6, api.Iluse)
	}
}

func TestLockOfACeilingThatIsLower(t *testing.T) {
	for _, ceil := range []int{2, 6, 16} {
		b := made(t, ceiling(ceil), fifo)
		for pri := 1; pri < ceil; pri++ {
			b.base(6, pri)
			b.refuses(1, 6, api.Iluse) // though nobody holds it
			b.refusesTry(1, 6, api.Iluse)
		}
		b.locks([2]int{1, 7})
		b.refuses(1, 6, api.Iluse)
		b.refusesTry(1, 6, api.Iluse)
		b.locks([2]int{2, 8})
		b.waits(2, 6)
		b.refuses(1, 6, api.Iluse) // before Obj
		b.refusesTry(1, 6, api.Iluse)
		b.drops(6)
		b.base(6, ceil)
		b.waits(1, 6)
	}
	b := made(t, ceiling(1), ceiling(2))
	b.base(1, 1)
	b.refuses(2, 1, api.Iluse)
	b.locks([2]int{1, 1})
}

// A task whose Pri is higher than the ceiling, but not its base priority, may lock it; and the other way round.
func TestLockOfACeilingAsksTheBase(t *testing.T) {
	b := based(t, ceiling(9), ceiling(2), inherit)
	b.locks([2]int{2, 5}, [2]int{3, 7})
	b.waits(3, 1)
	b.pri(5, 2)
	b.pri(7, 2)
	b.locks([2]int{1, 5})
	b.waits(1, 7)
	b.refuses(1, 4, api.Iluse)
}

func TestLockOfOneWhoWaits(t *testing.T) {
	for _, attr := range attrs {
		b := made(t, kind(attr), kind(attr), kind(attr))
		b.locks([2]int{1, 6}, [2]int{2, 5})
		b.waits(1, 7)
		for m := 1; m <= 3; m++ { // the one that it waits for, another one, one that nobody holds
			b.refuses(m, 7, api.Obj)
			b.refusesTry(m, 7, api.Obj)
		}
		b.waits(2, 6)
		b.refuses(3, 6, api.Obj)
		b.drops(7)
		b.drops(6)
		b.locks([2]int{3, 7})
		b.waits(2, 7, 6)
	}
}

// 6 waits, and the holder of 1 waits for what 6 holds: Obj comes first.
func TestLockOfOneWhoWaitsComesBeforeTheCircle(t *testing.T) {
	for _, attr := range attrs {
		b := made(t, kind(attr), kind(attr), kind(attr))
		b.locks([2]int{1, 5}, [2]int{2, 6}, [2]int{3, 7})
		b.waits(2, 5) // 5 waits for 6
		b.waits(3, 6) // 6 waits for 7
		b.refuses(1, 6, api.Obj)
		b.refuses(1, 7, api.Iluse)
		b.refusesTry(1, 6, api.Obj)
	}
}

func TestLockRefusesACircleOfTwo(t *testing.T) {
	for _, attr := range attrs {
		for _, other := range attrs {
			b := made(t, fifo, kind(attr), kind(other))
			b.locks([2]int{2, 5}, [2]int{3, 6})
			b.waits(2, 6)
			b.refuses(3, 5, api.Iluse)
			is(t, "TryLock", b.tryLock(3, 5), getsNot)
			b.waiting(3)
			b.locks([2]int{1, 5})
			b.drops(6)
			b.waits(3, 5)
			b.refuses(2, 6, api.Iluse)
		}
	}
}

func TestLockRefusesACircleOfMany(t *testing.T) {
	for shift := range 4 {
		var kinds []Kind
		for m := range 8 {
			kinds = append(kinds, kind((m*m+m/2+shift)%4)) // all of them, in changing company
		}
		b := made(t, kinds...)
		for n := 1; n <= 8; n++ {
			b.locks([2]int{n, n})
		}
		for n := 1; n <= 7; n++ {
			b.waits(n+1, n)
			for m := 1; m <= n; m++ {
				b.refuses(m, n+1, api.Iluse)
			}
		}
		b.drops(4)
		for m := 5; m <= 7; m++ {
			b.refuses(m, 8, api.Iluse)
		}
		b.waits(1, 8) // 5 to 8 wait in turn for 1, 1 to 3 for 4
		b.refuses(5, 4, api.Iluse)
		b.refuses(8, 4, api.Iluse)
		b.unlocks(4, 4, 3)
		b.waits(8, 4)
		b.refuses(4, 3, api.Iluse)
	}
}

// The holder waits, but not for what the task holds: that is no circle.
func TestLockWithoutACircle(t *testing.T) {
	for _, attr := range attrs {
		b := made(t, kind(attr), kind(attr), kind(attr), kind(attr))
		b.locks([2]int{1, 5}, [2]int{2, 6}, [2]int{3, 7}, [2]int{4, 8})
		b.waits(2, 5)
		b.waits(3, 6)
		b.waits(1, 8)
		b.waits(1, 9)
		b.refuses(4, 7, api.Iluse)
		b.drops(5)
		b.waits(4, 7) // 6, 7, 8 and 9 wait for 5
		b.refuses(2, 5, api.Iluse)
		b.unlocks(1, 5, 8)
		b.waits(2, 5)
		b.refuses(1, 8, api.Iluse)
	}
}

// Whoever gets a mutex while others wait on is the one for whom they wait.
func TestLockRefusesACircleAfterUnlock(t *testing.T) {
	for _, attr := range attrs {
		b := made(t, kind(attr), inherit)
		b.locks([2]int{1, 5}, [2]int{2, 7})
		b.waits(1, 6, 7)
		b.unlocks(1, 5, 6)
		b.waits(2, 5)
		b.refuses(2, 6, api.Iluse)
		b.unlocks(1, 6, 7)
		b.waits(2, 6)
		b.waits(1, 8)
	}
}

func TestLockRaisesAtOnce(t *testing.T) {
	b := based(t, ceiling(3), inherit)
	b.locks([2]int{1, 6}, [2]int{2, 6})
	b.pri(6, 3)
	b.waits(2, 1)
	b.pri(6, 2)
}

// TryLock

func TestTryLock(t *testing.T) {
	for _, attr := range attrs {
		b := based(t, kind(attr), fifo)
		is(t, "TryLock of one that nobody holds", b.tryLock(1, 6), gets)
		b.owner(1, 6)
		b.pri(6, []int{12, 12, 12, 1}[attr])
		b.unchanged(func() { is(t, "TryLock of one that is held", b.tryLock(1, 5), getsNot) })
		b.waits(1, 4)
		b.unchanged(func() { is(t, "TryLock of one for which a task waits", b.tryLock(1, 3), getsNot) })
		b.waiting(1, 4)
		is(t, "TryLock of another one", b.tryLock(2, 6), gets)
		b.held(6, 1, 2)
	}
}

func TestTryLockHasNoCircle(t *testing.T) {
	for _, attr := range attrs {
		b := made(t, kind(attr), kind(attr), kind(attr))
		b.locks([2]int{1, 5}, [2]int{2, 6}, [2]int{3, 7})
		b.waits(2, 5)
		b.waits(3, 6)
		for m := 1; m <= 2; m++ {
			b.unchanged(func() { is(t, "TryLock", b.tryLock(m, 7), getsNot) })
			b.refuses(m, 7, api.Iluse)
		}
	}
}

// Unlock

func TestUnlockOfOneForWhichNobodyWaits(t *testing.T) {
	for _, attr := range attrs {
		b := based(t, kind(attr), fifo)
		b.locks([2]int{1, 6}, [2]int{2, 6})
		b.unlocks(1, 6, 0)
		b.held(6, 2)
		b.pri(6, 12)
		b.refusesUnlock(1, 6, api.Iluse)
		b.locks([2]int{1, 5})
	}
}

func TestUnlockGoesToTheFirst(t *testing.T) {
	for _, attr := range attrs {
		b := based(t, kind(attr))
		b.locks([2]int{1, 6})
		b.waits(1, 5)
		b.unlocks(1, 6, 5)
		b.waiting(1)
		b.waits(1, 4, 3, 6)
		first := []int{4, 3, 3, 3}[attr]
		b.unlocks(1, 5, first)
		is(t, "Drop of one who holds it now", b.drop(first), false)
		b.refuses(1, first, api.Iluse)
		is(t, "the number of those who still wait", len(b.real.Waiting(1)), 2)
	}
}

func TestUnlockRefuses(t *testing.T) {
	b := made(t, inherit, ceiling(4), fifo)
	b.locks([2]int{1, 6}, [2]int{2, 7})
	b.waits(1, 8)
	for _, n := range append([]int{4, 5, 8, 9}, outside...) {
		for _, task := range append([]int{6, 7, 8}, outside...) {
			b.refusesUnlock(n, task, api.ID)
		}
	}
	for _, n := range outside {
		for m := 1; m <= 3; m++ {
			b.refusesUnlock(m, n, api.ID) // of 3, too, which nobody holds
		}
	}
	for _, x := range [][2]int{{1, 7}, {1, 8}, {1, 1}, {2, 6}, {3, 6}, {3, 16}} {
		b.refusesUnlock(x[0], x[1], api.Iluse)
	}
}

// Also of one who waits for another mutex meanwhile.
func TestUnlockOfOneWhoWaits(t *testing.T) {
	b := based(t, inherit, inherit)
	b.locks([2]int{1, 6}, [2]int{2, 7})
	b.waits(2, 6)
	b.waits(1, 3)
	b.pri(7, 6)
	b.unlocks(1, 6, 3)
	b.pri(7, 12)
	b.waiting(2, 6)
}

// Drop

func TestDrop(t *testing.T) {
	for _, attr := range attrs {
		for at := range 3 {
			b := based(t, kind(attr), fifo)
			b.locks([2]int{1, 6}, [2]int{2, 7})
			b.waits(1, 3, 4, 5)
			b.waits(2, 1)
			left := slices.Delete([]int{3, 4, 5}, at, at+1)
			b.drops(3 + at)
			b.waiting(1, left...)
			b.waiting(2, 1)
			b.owner(1, 6)
			b.unchanged(func() { is(t, "Drop once more", b.drop(3+at), false) })
			b.waits(1, 3+at)
			b.drops(left[0])
			b.drops(left[1])
			b.drops(3 + at)
			b.waiting(1)
			b.unlocks(1, 6, 0)
		}
	}
}

func TestDropOfOneWhoDoesNotWait(t *testing.T) {
	b := made(t, inherit, fifo)
	b.locks([2]int{1, 6})
	b.waits(1, 7)
	for _, n := range append([]int{1, 6, 8, 16}, outside...) {
		b.unchanged(func() { is(t, "Drop of one who does not wait", b.drop(n), false) })
	}
}

func TestDropKeepsWhatTheTaskHolds(t *testing.T) {
	b := made(t, inherit, fifo)
	b.locks([2]int{1, 6}, [2]int{2, 7})
	b.waits(1, 7)
	b.waits(2, 8)
	b.drops(7)
	b.held(7, 2)
	b.waiting(2, 8)
}

// Free

func TestFree(t *testing.T) {
	b := based(t, inherit, fifo, ceiling(2), byPri, inherit, fifo, ceiling(9), byPri)
	b.unchanged(func() { b.frees(6) })
	b.locks([2]int{5, 6})
	b.frees(6)
	b.owner(5, 0)
	b.locks([2]int{8, 6}, [2]int{3, 6}, [2]int{1, 6}, [2]int{6, 6}, [2]int{4, 5}, [2]int{7, 6})
	b.held(6, 1, 3, 6, 7, 8)
	b.waits(8, 1)
	b.waits(3, 3, 2)
	b.waits(6, 8, 7)
	b.waits(4, 4)
	b.pri(6, 2)
	b.frees(6, 2, 8, 1)
	b.pri(6, 12)
	for m, task := range []int{0, 0, 0, 2, 5, 0, 8, 0, 1} {
		b.owner(m, task)
	}
	b.waiting(3, 3)
	b.waiting(4, 4)
	b.waiting(6, 7)
	b.waiting(8)
	b.unchanged(func() { b.frees(6) })
}

func TestFreeOfAllMutexes(t *testing.T) {
	for _, attr := range attrs {
		k := kind(attr)
		b := made(t, k, k, k, k, k, k, k, k)
		for m := 8; m >= 1; m-- {
			b.locks([2]int{m, 16})
		}
		b.held(16, 1, 2, 3, 4, 5, 6, 7, 8)
		var who []int
		for m := 1; m <= 8; m++ {
			if m != 5 {
				b.waits(m, 9-m)
				who = append(who, 9-m)
			}
		}
		b.frees(16, who...)
	}
}

// What it waits for, it still waits for.
func TestFreeOfOneWhoWaits(t *testing.T) {
	b := based(t, inherit, inherit, fifo)
	b.locks([2]int{1, 6}, [2]int{2, 7}, [2]int{3, 6})
	b.waits(1, 2)
	b.waits(2, 6)
	b.pri(7, 4)
	b.frees(6, 2)
	b.waiting(2, 6)
	b.pri(7, 12)
	b.unchanged(func() { b.frees(6) })
	b.drops(6)
}

func TestFreeOfOneWhoHoldsNothing(t *testing.T) {
	b := made(t, inherit, fifo)
	b.locks([2]int{1, 6})
	b.waits(1, 7)
	for _, n := range append([]int{1, 7, 16}, outside...) {
		b.unchanged(func() { b.frees(n) })
	}
}

// Owner, Waiting, Held

func TestNumbersThatDoNotExist(t *testing.T) {
	b := made(t, inherit, fifo, ceiling(3))
	b.locks([2]int{1, 16}, [2]int{2, 1})
	b.waits(1, 7)
	for _, n := range outside {
		is(t, "Base of no task", b.real.Base(n), 0)
		is(t, "Pri of no task", b.real.Pri(n), 0)
		b.held(n)
	}
	for _, n := range append([]int{4, 5, 8, 9, 16}, outside...) {
		b.owner(n, 0)
		b.waiting(n)
	}
	b.state()
}

func TestOwnerWaitingAndHeldTellOfTheirs(t *testing.T) {
	b := made(t, inherit, fifo, byPri)
	b.locks([2]int{3, 6}, [2]int{1, 5})
	b.waits(3, 9, 8)
	b.waits(1, 4)
	for m, task := range []int{0, 5, 0, 6, 0} {
		b.owner(m, task)
	}
	b.waiting(1, 4)
	b.waiting(2)
	b.waiting(3, 9, 8)
	b.held(5, 1)
	b.held(6, 3)
	b.held(9)
	b.locks([2]int{2, 6})
	b.held(6, 2, 3)
}

// spoil writes over a slice, and over its unused capacity.
func spoil(l []int) {
	l = l[:cap(l)]
	for i := range l {
		l[i] = 99
	}
}

func TestTheSlicesAreTheCallersOwn(t *testing.T) {
	b := made(t, inherit, fifo, byPri, fifo)
	b.locks([2]int{1, 6}, [2]int{2, 6}, [2]int{3, 6}, [2]int{4, 5})
	b.waits(1, 9, 8, 7)
	b.waits(2, 4, 3)
	b.waits(3, 2)
	for m := 0; m <= 5; m++ {
		kept := b.real.Waiting(m)
		was := slices.Clone(kept)
		spoil(b.real.Waiting(m))
		b.state()
		if !slices.Equal(kept, was) {
			t.Errorf("P2: two lists of Waiting(%d) share memory", m)
		}
	}
	for n := 0; n <= 17; n++ {
		kept := b.real.Held(n)
		was := slices.Clone(kept)
		spoil(b.real.Held(n))
		b.state()
		if !slices.Equal(kept, was) {
			t.Errorf("P2: two lists of Held(%d) share memory", n)
		}
	}
	twin := b.twin()
	who := b.free(6)
	spoil(twin.real.Free(6))
	if !slices.Equal(who, []int{9, 4, 2}) {
		t.Errorf("P2: Free(6) is %v", who)
	}
	spoil(who)
	b.state()
	held := b.real.Held(9)
	b.frees(9, 8)
	if !slices.Equal(held, []int{1}) {
		t.Errorf("P2: Held changed to %v afterwards", held)
	}
}

// Twin

func TestTwinsGoTheirOwnWays(t *testing.T) {
	calls := map[string]func(b *both){
		"SetBase":     func(b *both) { b.base(4, 1) },
		"Lock":        func(b *both) { b.locks([2]int{4, 1}) },
		"Lock, waits": func(b *both) { b.waits(1, 1) },
		"TryLock":     func(b *both) { is(b.t, "TryLock", b.tryLock(4, 1), gets) },
		"Unlock":      func(b *both) { b.unlock(1, 6) },
		"Drop":        func(b *both) { b.drops(3) },
		"Free":        func(b *both) { b.frees(6, 3, 2) },
	}
	for _, attr := range byPriority {
		for name, call := range calls {
			b := based(t, kind(attr), fifo, inherit, ceiling(1))
			b.locks([2]int{1, 6}, [2]int{2, 6}, [2]int{3, 7})
			b.waits(1, 5, 4, 3)
			b.waits(2, 2)
			was := told(b.real)
			first, second := b.twin(), b.twin()
			call(first)
			b.state()
			second.state()
			call(b)
			second.state()
			if told(first.real) == was || told(b.real) != told(first.real) || told(second.real) != was {
				t.Errorf("P1501: the twins after %s", name)
			}
			call(second)
			if told(second.real) != told(b.real) {
				t.Errorf("P1501: a twin after %s", name)
			}
		}
	}
}

func TestTwinOfNothing(t *testing.T) {
	b := made(t)
	twin := b.twin()
	twin.base(1, 5)
	b.state()
	is(t, "Base of the first", b.real.Base(1), 16)
	twin.refuses(1, 1, api.ID)
}

// A twin knows the ceilings, and the places of those who wait are put anew in it, too.
func TestTwinIsAsGoodAsTheFirst(t *testing.T) {
	b := based(t, inherit, ceiling(6), byPri, fifo)
	b.locks([2]int{1, 8}, [2]int{2, 7}, [2]int{3, 6}, [2]int{4, 5})
	b.waits(3, 8, 3, 4)
	twin := b.twin().twin()
	twin.waiting(3, 3, 4, 8)
	twin.refusesBase(7, 5, api.Iluse)
	twin.pri(7, 6)
	twin.waits(1, 2)
	twin.waiting(3, 8, 3, 4)
	b.waiting(3, 3, 4, 8)
	twin.waits(4, 9, 1)
	twin.waiting(4, 9, 1)
	twin.unlocks(3, 6, 8)
	b.owner(3, 6)
}

// P1502

func TestPlacesAfterSetBase(t *testing.T) {
	for _, attr := range byPriority {
		b := made(t, fifo, kind(attr))
		b.locks([2]int{2, 16})
		for n := 1; n <= 6; n++ {
			b.base(n, 10)
			b.waits(2, n)
		}
		b.waiting(2, 1, 2, 3, 4, 5, 6)
		b.base(3, 11)
		b.waiting(2, 1, 2, 4, 5, 6, 3)
		b.base(3, 10) // behind its equals, not where it was
		b.waiting(2, 1, 2, 4, 5, 6, 3)
		b.base(1, 10) // nothing has changed
		b.waiting(2, 1, 2, 4, 5, 6, 3)
		b.base(5, 1)
		b.waiting(2, 5, 1, 2, 4, 6, 3)
		b.base(6, 1)
		b.waiting(2, 5, 6, 1, 2, 4, 3)
		b.base(5, 16)
		b.waiting(2, 6, 1, 2, 4, 3, 5)
		b.base(1, 16)
		b.waiting(2, 6, 2, 4, 3, 5, 1)
		b.base(4, 9)
		b.waiting(2, 6, 4, 2, 3, 5, 1)
		b.unlocks(2, 16, 6)
	}
}

// The base priority changes, but not the Pri: then the place does not change.
func TestPlacesWithTheSamePri(t *testing.T) {
	for _, attr := range byPriority {
		b := made(t, kind(attr), ceiling(5), inherit)
		b.base(9, 5)
		b.locks([2]int{1, 16}, [2]int{2, 3}, [2]int{3, 4})
		b.waits(3, 9)
		b.base(6, 5)
		b.waits(1, 3, 4, 6)
		b.waiting(1, 3, 4, 6)
		b.base(3, 5)
		b.base(3, 12)
		b.base(4, 6)
		b.base(4, 5)
		b.base(4, 16)
		b.waiting(1, 3, 4, 6)
		b.base(4, 4)
		b.waiting(1, 4, 3, 6)
		b.base(4, 5)
		b.waiting(1, 3, 6, 4)
	}
}

func TestPlacesAfterLock(t *testing.T) {
	for _, attr := range byPriority {
		b := based(t, kind(attr), inherit)
		b.locks([2]int{1, 8}, [2]int{2, 7})
		b.waits(1, 2, 4, 5, 6, 7)
		b.waiting(1, 2, 4, 5, 6, 7)
		b.base(9, 10)
		b.waits(2, 9)
		b.waiting(1, 2, 4, 5, 7, 6) // behind 5, whose Pri is the same
		b.waits(2, 3)
		b.waiting(1, 2, 7, 4, 5, 6)
		b.base(10, 6)
		b.waits(2, 10) // of the same Pri as 3: 7 stays where it is
		b.waiting(1, 2, 7, 4, 5, 6)
		b.base(11, 4)
		b.waits(2, 11)
		b.waiting(1, 2, 7, 4, 5, 6) // behind 2
		b.waits(2, 1)
		b.waiting(1, 7, 2, 4, 5, 6)
	}
}

// A refused call and a TryLock put nobody anywhere.
func TestPlacesAfterWhatChangesNothing(t *testing.T) {
	for _, attr := range byPriority {
		b := made(t, kind(attr), inherit, fifo)
		b.base(9, 1)
		b.locks([2]int{1, 8}, [2]int{2, 3})
		b.waits(1, 3, 4, 5)
		is(t, "TryLock", b.tryLock(2, 9), getsNot)
		is(t, "TryLock", b.tryLock(3, 9), gets)
		b.refuses(2, 8, api.Iluse)
		b.waiting(1, 3, 4, 5)
	}
}

func TestPlacesAfterUnlock(t *testing.T) {
	for _, attr := range byPriority {
		b := based(t, kind(attr), inherit, ceiling(8))
		b.locks([2]int{1, 8}, [2]int{2, 7}, [2]int{3, 7})
		b.base(9, 14)
		b.base(10, 8)
		b.waits(2, 2)
		b.waits(1, 9, 6, 10, 7)
		b.waiting(1, 7, 10, 6, 9)
		b.unlocks(2, 7, 2)
		b.waiting(1, 10, 7, 6, 9)
		b.unlocks(3, 7, 0)
		b.waiting(1, 10, 6, 9, 7)
		b.unlocks(1, 8, 10)
		b.waiting(1, 6, 9, 7)
	}
}

func TestPlacesAfterDrop(t *testing.T) {
	for _, attr := range byPriority {
		b := based(t, kind(attr), inherit)
		b.locks([2]int{1, 8}, [2]int{2, 7})
		b.base(9, 10)
		b.base(10, 14)
		b.waits(2, 5, 1, 9)
		b.waits(1, 7, 4, 6, 11, 10)
		b.base(11, 10)
		b.waiting(1, 7, 4, 11, 6, 10)
		b.drops(1)
		b.waiting(1, 4, 11, 7, 6, 10)
		b.drops(5) // 9 has the same Pri: nothing has changed
		b.base(11, 9)
		b.base(11, 10)
		b.waiting(1, 4, 7, 11, 6, 10)
		b.drops(9)
		b.waiting(1, 4, 11, 6, 10, 7)
		b.drops(4)
		b.waiting(1, 11, 6, 10, 7)
	}
}

// places makes a task that waits for a mutex of this Attr, and that holds three others, of which each gives it a Pri.
func places(t *testing.T, attr int) *both {
	b := based(t, inherit, ceiling(6), kind(attr), inherit)
	b.locks([2]int{3, 8}, [2]int{1, 7}, [2]int{2, 7}, [2]int{4, 7})
	b.waits(1, 2)
	b.waits(4, 5)
	b.base(9, 6)
	b.base(10, 10)
	b.base(11, 14)
	b.waits(3, 7, 9, 10, 11)
	b.waiting(3, 7, 9, 10, 11)
	return b
}

func TestPlacesAfterFree(t *testing.T) {
	for _, attr := range byPriority {
		b := places(t, attr)
		b.frees(7, 2, 5)
		b.pri(7, 14)
		b.waiting(3, 9, 10, 11, 7)

		b = places(t, attr)
		b.unlocks(1, 7, 2)
		b.waiting(3, 9, 7, 10, 11)
		b.unlocks(2, 7, 0)
		b.waiting(3, 9, 10, 7, 11)
		b.unlocks(4, 7, 5)
		b.waiting(3, 9, 10, 11, 7)
	}
}

// Free is as Unlock of each mutex that the task holds, in ascending order.
func TestPlacesInFreeAfterEachMutex(t *testing.T) {
	for _, attr := range byPriority {
		b := places(t, attr)
		b.waits(2, 6) // a second one whose mutex is passed on, between the two others
		b.base(12, 5)
		b.waits(1, 12)
		each := b.twin()
		b.frees(7, 2, 6, 5)
		each.unlocks(1, 7, 2)
		each.unlocks(2, 7, 6)
		each.unlocks(4, 7, 5)
		if told(b.real) != told(each.real) {
			t.Errorf("P1502: after Free there is %+v, and after Unlock of each %+v", told(b.real), told(each.real))
		}
		b.waiting(1, 12)
		b.waiting(3, 9, 10, 11, 7)
	}
}

// In several mutexes at once, however their numbers lie, and also when it is the last in a line who is raised.
func TestPlacesInSeveralMutexes(t *testing.T) {
	for _, m := range [][3]int{{1, 2, 3}, {1, 3, 2}, {2, 1, 3}, {2, 3, 1}, {3, 1, 2}, {3, 2, 1}} {
		b := made(t, inherit, inherit, inherit)
		b.locks([2]int{m[0], 4}, [2]int{m[1], 5}, [2]int{m[2], 6})
		b.waits(m[2], 7, 5)
		b.waits(m[1], 8, 4)
		b.waits(m[0], 2, 3)
		b.base(3, 4)
		b.waiting(m[0], 3, 2)
		b.waiting(m[1], 4, 8)
		b.waiting(m[2], 5, 7)
		b.pri(6, 4)
		b.base(3, 16)
		b.waiting(m[0], 2, 3)
		b.waiting(m[1], 8, 4)
		b.waiting(m[2], 7, 5)
		b.pri(6, 16)
	}
}

func TestPlacesOverSeveralHolders(t *testing.T) {
	for _, attr := range byPriority {
		b := made(t, inherit, inherit, inherit, kind(attr))
		for n := 1; n <= 3; n++ {
			b.base(n, 10)
			b.base(n+5, 10)
			b.locks([2]int{n, n})
		}
		b.locks([2]int{4, 9})
		b.waits(2, 1, 6)
		b.waits(3, 2, 7)
		b.waits(4, 3, 8)
		b.base(5, 4)
		b.waits(4, 4)
		b.base(4, 4)
		b.waits(1, 5) // 1, 2 and 3 are raised at once
		b.pri(3, 4)
		b.waiting(2, 1, 6)
		b.waiting(3, 2, 7)
		b.waiting(4, 4, 3, 8)
		b.drops(5) // and go behind their equals at once
		b.waiting(2, 6, 1)
		b.waiting(3, 7, 2)
		b.waiting(4, 4, 8, 3)
		b.base(1, 3)
		b.waiting(2, 1, 6)
		b.waiting(3, 2, 7)
		b.waiting(4, 3, 4, 8)
		b.base(1, 10)
		b.waiting(2, 6, 1)
		b.waiting(3, 7, 2)
		b.waiting(4, 4, 8, 3)
	}
}

// The chain ends where the Attr is not Inherit, and where the Pri of the holder is higher anyway.
func TestPlacesUpToWhereThePriChanges(t *testing.T) {
	for _, attr := range []int{Fifo, ByPri, Ceiling} {
		b := made(t, inherit, kind(attr), byPri, ceiling(16))
		b.locks([2]int{1, 1}, [2]int{2, 2}, [2]int{3, 9})
		b.waits(2, 6, 1)
		b.waits(3, 2, 7)
		b.base(5, 4)
		b.waits(1, 5)
		if attr == Fifo {
			b.waiting(2, 6, 1)
		} else {
			b.waiting(2, 1, 6)
		}
		b.waiting(3, 2, 7)
		b.drops(5)
		b.waiting(2, 6, 1)
		b.waiting(3, 2, 7)
	}
	b := made(t, inherit, inherit, byPri)
	b.locks([2]int{1, 1}, [2]int{2, 2}, [2]int{3, 9})
	b.base(8, 3)
	b.waits(2, 8, 1)
	b.base(7, 3)
	b.waits(3, 2, 7)
	b.waiting(3, 2, 7)
	b.base(5, 4)
	b.waits(1, 5)
	b.waiting(2, 8, 1)
	b.waiting(3, 2, 7)
	b.drops(5)
	b.waiting(3, 2, 7)
	b.drops(8)
	b.waiting(3, 7, 2)
}

func TestPlacesInAFifoStay(t *testing.T) {
	b := made(t, fifo, inherit, inherit, ceiling(2))
	b.locks([2]int{1, 16}, [2]int{2, 4}, [2]int{3, 16}, [2]int{4, 5})
	b.waits(1, 3, 4, 5, 6)
	order := []int{3, 4, 5, 6}
	b.waiting(1, order...)
	b.base(6, 1)
	b.waiting(1, order...)
	b.base(3, 1)
	b.base(3, 16)
	b.waiting(1, order...)
	b.base(7, 1)
	b.waits(2, 7)
	b.pri(4, 1)
	b.pri(16, 16)
	b.waiting(1, order...)
	b.drops(7)
	b.waiting(1, order...)
	b.waits(2, 7)
	b.frees(4, 7)
	b.unlocks(4, 5, 0)
	b.waiting(1, order...)
	b.unlocks(1, 16, 3)
	b.waiting(1, 4, 5, 6)
	b.unlocks(1, 3, 4)
}

// The example

func TestExample(t *testing.T) {
	b := based(t, inherit, fifo, ceiling(3), byPri)
	b.locks([2]int{3, 6})
	b.pri(6, 3)
	b.refuses(3, 6, api.Iluse)
	b.refuses(1, 0, api.ID)
}

// An All that New has not made is nobody's answer, but P1 holds of it, too: it has no mutexes.
func TestAZeroAllDoesNotPanic(t *testing.T) {
	for _, a := range []*All{{}, new(All).Twin()} {
		for _, n := range append([]int{1, 2, 8, 16}, outside...) {
			a.Base(n)
			a.Pri(n)
			a.SetBase(n, n)
			ok, code := a.Lock(n, n)
			is(t, "Lock", locked{ok, code}, refused(api.ID))
			ok, code = a.TryLock(n, n)
			is(t, "TryLock", locked{ok, code}, refused(api.ID))
			who, code := a.Unlock(n, n)
			is(t, "Unlock", passed{who, code}, passed{code: api.ID})
			is(t, "Drop", a.Drop(n), false)
			is(t, "Owner", a.Owner(n), 0)
			is(t, "what there is", len(a.Free(n))+len(a.Waiting(n))+len(a.Held(n)), 0)
		}
		a.Twin().Pri(1)
	}
}

// draws are numbers that look drawn by lot, and are the same each time.
type draws uint64

func (d *draws) below(n int) int {
	*d = *d*6364136223846793005 + 1442695040888963407
	return int(uint64(*d>>33) % uint64(n))
}

func (d *draws) kinds() []Kind {
	var kinds []Kind
	for range d.below(9) {
		attr := []int{Fifo, ByPri, Inherit, Inherit, Inherit, Ceiling}[d.below(6)]
		kinds = append(kinds, Kind{Attr: attr})
		if attr == Ceiling {
			kinds[len(kinds)-1].Ceil = 1 + d.below(16)
		}
	}
	return kinds
}

// oneOf is a task that waits, if there is one, or any task.
func (d *draws) oneOf(b *both) int {
	var tasks []int
	for m := range b.want.line {
		tasks = append(tasks, b.want.line[m]...)
	}
	if len(tasks) == 0 {
		return 1 + d.below(16)
	}
	return tasks[d.below(len(tasks))]
}

func TestManyCallsAsTheModel(t *testing.T) {
	for seed := range 300 {
		d := draws(seed)
		b := made(t, d.kinds()...)
		few := []int{3, 16}[seed%2] // with few priorities, many are equal
		for i := range 250 {
			m, task, pri := d.below(len(b.want.kinds)+2), d.below(18), 17-d.below(few+1)
			switch call := d.below(14 + i%50/40*6); {
			case call < 6:
				b.lock(m, task)
			case call == 6:
				b.tryLock(m, task)
			case call < 10:
				b.setBase(d.oneOf(b), pri)
			case call == 10:
				b.setBase(task, pri)
			case call == 11:
				b.unlock(m, b.want.Owner(m))
			case call == 12:
				b.unlock(m, task)
			case call == 13:
				left := b.twin()
				left.drop(left.want.base[1])
				b.lock(m, task)
				left.free(task)
				b.state()
				left.state()
			case call < 18: // now and then, so that long chains can grow between
				b.drop(d.oneOf(b))
			default:
				b.free(task)
			}
		}
	}
}

// P3: the same calls in the same order return the same.
func TestTheSameCallsReturnTheSame(t *testing.T) {
	run := func() []any {
		a, _ := New(inherit, fifo, ceiling(4), byPri, inherit)
		d := draws(7)
		var all []any
		for range 300 {
			m, task := 1+d.below(5), 1+d.below(16)
			switch d.below(4) {
			case 0:
				all = append(all, a.SetBase(task, 1+d.below(16)))
			case 1:
				who, code := a.Unlock(m, a.Owner(m))
				all = append(all, who, code)
			default:
				ok, code := a.Lock(m, task)
				all = append(all, ok, code)
			}
			all = append(all, told(a))
		}
		return all
	}
	if a, b := run(), run(); !slices.Equal(a, b) {
		t.Errorf("P3: %v, and then %v", a, b)
	}
}
