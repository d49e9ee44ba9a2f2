package tcb

import (
	"math"
	"slices"
	"testing"

	"detent/api"
)

// answer is what any of the methods returns; a method that has no bool, number or code leaves it zero.
type answer struct {
	yes  bool
	num  int
	code api.Code
}

// method is one of those that may change a task, under the name that a failure tells.
type method struct {
	name string
	call func(t *Task) answer
}

func methods() []method {
	return []method{
		{"Act", func(t *Task) answer { ok, code := t.Act(); return answer{ok, 0, code} }},
		{"CanAct", func(t *Task) answer { return answer{num: t.CanAct()} }},
		{"End", func(t *Task) answer { return answer{yes: t.End()} }},
		{"Kill", func(t *Task) answer { ok, code := t.Kill(); return answer{ok, 0, code} }},
		{"Sleep", func(t *Task) answer { ok, code := t.Sleep(); return answer{ok, 0, code} }},
		{"Stay", func(t *Task) answer { return answer{code: t.Stay()} }},
		{"Wake", func(t *Task) answer { ok, code := t.Wake(); return answer{ok, 0, code} }},
		{"CanWake", func(t *Task) answer { n, code := t.CanWake(); return answer{false, n, code} }},
		{"Release", func(t *Task) answer { return answer{yes: t.Release()} }},
		{"Suspend", func(t *Task) answer { return answer{code: t.Suspend()} }},
		{"Resume(false)", func(t *Task) answer { ok, code := t.Resume(false); return answer{ok, 0, code} }},
		{"Resume(true)", func(t *Task) answer { ok, code := t.Resume(true); return answer{ok, 0, code} }},
	}
}

func named(t *testing.T, name string) func(*Task) answer {
	t.Helper()
	for _, m := range methods() {
		if m.name == name {
			return m.call
		}
	}
	t.Fatalf("there is no method %s", name)
	return nil
}

// task is one with the counts in the order of Counts.
func task(state int, asleep bool, acts, wups, susps int) Task {
	return Task{Counts{acts, wups, susps}, state, asleep}
}

// Answers that come often.
var (
	yes  = answer{yes: true}
	no   = answer{}
	obj  = answer{code: api.Obj}
	qovr = answer{code: api.Qovr}
	fine = answer{code: api.OK}
)

// allSix are the states of package api; Run is among them, though no task here is in it.
var allSix = []int{api.Run, api.Ready, api.Wait, api.Susp, api.WaitSusp, api.Dormant}

func number(n int) answer { return answer{num: n} }

// made is a task that was brought from New to what is wanted by the methods alone.
func made(t *testing.T, want Task) *Task {
	t.Helper()
	x := New()
	do := func(times int, name string) {
		t.Helper()
		call := named(t, name)
		for range times {
			if got := call(x); got.code != api.OK {
				t.Fatalf("P1001: %s on the way to %+v: %v, of %+v", name, want, got.code, *x)
			}
		}
	}
	if want.State != api.Dormant {
		do(1, "Act")
	}
	do(want.Acts, "Act")
	if want.State == api.Wait || want.State == api.WaitSusp {
		if want.Asleep {
			do(1, "Sleep")
		} else {
			do(1, "Stay")
		}
	}
	do(want.Wups, "Wake")
	do(want.Susps, "Suspend")
	if *x != want {
		t.Fatalf("P1001: %+v came out as %+v", want, *x)
	}
	return x
}

// step is a task, what happens to it, and what is left of it.
type step struct {
	before Task
	name   string
	want   answer
	after  Task
}

func (s step) run(t *testing.T) {
	t.Helper()
	x := made(t, s.before)
	got := named(t, s.name)(x)
	if got != s.want || *x != s.after {
		t.Errorf("P1001: %s of %+v returns %+v and leaves %+v, not %+v and %+v", s.name, s.before, got, *x, s.want, s.after)
	}
	if s.want.code != api.OK && *x != s.before {
		t.Errorf("P5: %s of %+v changed it to %+v", s.name, s.before, *x)
	}
}

func runAll(t *testing.T, steps []step) {
	t.Helper()
	for _, s := range steps {
		s.run(t)
	}
}

// The seven situations of a task without counts, but for the suspension that Susp and WaitSusp come from.
var (
	dormant  = task(api.Dormant, false, 0, 0, 0)
	ready    = task(api.Ready, false, 0, 0, 0)
	asleep   = task(api.Wait, true, 0, 0, 0)
	waits    = task(api.Wait, false, 0, 0, 0)
	susp     = task(api.Susp, false, 0, 0, 1)
	asleepS  = task(api.WaitSusp, true, 0, 0, 1)
	waitsS   = task(api.WaitSusp, false, 0, 0, 1)
	allSeven = []Task{dormant, ready, asleep, waits, susp, asleepS, waitsS}
)

func TestTheLimit(t *testing.T) {
	if api.MaxCount != 7 {
		t.Fatal("the tests speak of seven that are queued")
	}
}

func TestNew(t *testing.T) {
	x := New()
	if x == nil {
		t.Fatal("P1001: New is nil")
	}
	if *x != dormant || x.Any() || !x.Is(api.Dormant) {
		t.Errorf("P1001: New is %+v", *x)
	}
}

func TestNewTasksShareNothing(t *testing.T) {
	a, b := New(), New()
	a.Act()
	a.Act()
	a.Suspend()
	if *b != dormant || *New() != dormant {
		t.Errorf("P7: what happened to one task made another %+v", *b)
	}
}

func TestTheChaptersExample(t *testing.T) {
	x := New()
	if ok, code := x.Act(); !ok || code != api.OK {
		t.Errorf("P1001: the first Act is %v, %v", ok, code)
	}
	for i := range 7 {
		if ok, code := x.Act(); ok || code != api.OK || x.Acts != i+1 {
			t.Errorf("P1001: Act %d more is %v, %v, with %d queued", i+1, ok, code, x.Acts)
		}
	}
	for range 2 {
		if ok, code := x.Act(); ok || code != api.Qovr {
			t.Errorf("P1001: one Act more is %v, %v", ok, code)
		}
		if *x != task(api.Ready, false, 7, 0, 0) {
			t.Errorf("P5: it left %+v", *x)
		}
	}
}

func TestAct(t *testing.T) {
	runAll(t, []step{
		{dormant, "Act", yes, ready},
		{ready, "Act", no, task(api.Ready, false, 1, 0, 0)},
		{asleep, "Act", no, task(api.Wait, true, 1, 0, 0)},
		{waits, "Act", no, task(api.Wait, false, 1, 0, 0)},
		{susp, "Act", no, task(api.Susp, false, 1, 0, 1)},
		{asleepS, "Act", no, task(api.WaitSusp, true, 1, 0, 1)},
		{waitsS, "Act", no, task(api.WaitSusp, false, 1, 0, 1)},
		{task(api.Ready, false, 6, 7, 0), "Act", no, task(api.Ready, false, 7, 7, 0)},
	})
	for _, full := range allSeven[1:] {
		full.Acts = 7
		step{full, "Act", qovr, full}.run(t)
	}
}

func TestCanAct(t *testing.T) {
	for _, before := range allSeven {
		step{before, "CanAct", number(0), before}.run(t)
		for acts := 1; acts <= 7 && before.State != api.Dormant; acts++ {
			queued := before
			queued.Acts = acts
			step{queued, "CanAct", number(acts), before}.run(t)
		}
	}
	step{task(api.Susp, false, 5, 6, 7), "CanAct", number(5), task(api.Susp, false, 0, 6, 7)}.run(t)
	x := made(t, task(api.Ready, false, 7, 0, 0))
	x.CanAct()
	if n := x.CanAct(); n != 0 {
		t.Errorf("P1001: a second CanAct is %d", n)
	}
	if ok, code := x.Act(); ok || code != api.OK || x.Acts != 1 {
		t.Errorf("P1001: Act after CanAct is %v, %v, with %d queued", ok, code, x.Acts)
	}
}

func TestEnd(t *testing.T) {
	runAll(t, []step{
		{ready, "End", no, dormant},
		{task(api.Ready, false, 0, 7, 0), "End", no, dormant},
		{task(api.Ready, false, 1, 0, 0), "End", yes, ready},
		{task(api.Ready, false, 1, 5, 0), "End", yes, ready},
		{task(api.Ready, false, 2, 5, 0), "End", yes, task(api.Ready, false, 1, 0, 0)},
		{task(api.Ready, false, 7, 7, 0), "End", yes, task(api.Ready, false, 6, 0, 0)},
	})
}

func TestEndOfATaskThatIsNotReady(t *testing.T) {
	for _, before := range allSeven {
		if before.State == api.Ready {
			continue
		}
		step{before, "End", no, before}.run(t)
		if before.State == api.Dormant {
			continue
		}
		before.Acts = 3
		step{before, "End", no, before}.run(t)
		if !before.Asleep {
			before.Wups = 7
			step{before, "End", no, before}.run(t)
		}
	}
	step{task(api.WaitSusp, true, 7, 0, 7), "End", no, task(api.WaitSusp, true, 7, 0, 7)}.run(t)
}

func TestEndsUntilNoActivationIsQueued(t *testing.T) {
	x := made(t, task(api.Ready, false, 7, 0, 0))
	for left := 6; left >= 0; left-- {
		x.Wake()
		if !x.End() || *x != task(api.Ready, false, left, 0, 0) {
			t.Errorf("P1001: after End it is %+v, not %d", *x, left)
		}
	}
	if x.End() || *x != dormant {
		t.Errorf("P1001: after the last End it is %+v", *x)
	}
	if x.End() || *x != dormant {
		t.Errorf("P1001: End of a dormant task made it %+v", *x)
	}
	if ok, code := x.Act(); !ok || code != api.OK || *x != ready {
		t.Errorf("P1001: Act after the end is %v, %v: %+v", ok, code, *x)
	}
}

func TestKill(t *testing.T) {
	step{dormant, "Kill", obj, dormant}.run(t)
	for _, before := range allSeven[1:] {
		step{before, "Kill", no, dormant}.run(t)
		for acts := 1; acts <= 7; acts++ {
			before.Acts = acts
			step{before, "Kill", yes, task(api.Ready, false, acts-1, 0, 0)}.run(t)
		}
	}
	runAll(t, []step{ // wakeups and suspensions are forgotten
		{task(api.Ready, false, 0, 7, 0), "Kill", no, dormant},
		{task(api.Wait, false, 0, 7, 0), "Kill", no, dormant},
		{task(api.Susp, false, 0, 7, 7), "Kill", no, dormant},
		{task(api.WaitSusp, false, 0, 7, 7), "Kill", no, dormant},
		{task(api.WaitSusp, true, 0, 0, 7), "Kill", no, dormant},
		{task(api.Susp, false, 7, 7, 7), "Kill", yes, task(api.Ready, false, 6, 0, 0)},
		{task(api.WaitSusp, true, 1, 0, 7), "Kill", yes, ready},
	})
}

// After an end a task must not be told from a new one: it can't be woken out of a sleep that it no longer sleeps.
func TestAKilledTaskIsNotAsleep(t *testing.T) {
	for _, before := range []Task{asleep, asleepS} {
		x := made(t, before)
		x.Kill()
		x.Act()
		if ok, code := x.Wake(); ok || code != api.OK || *x != task(api.Ready, false, 0, 1, 0) {
			t.Errorf("P1001: Wake after Kill and Act is %v, %v: %+v", ok, code, *x)
		}
	}
}

func TestSleep(t *testing.T) {
	for _, before := range allSeven {
		if before.State != api.Ready {
			step{before, "Sleep", obj, before}.run(t)
		}
	}
	runAll(t, []step{
		{ready, "Sleep", yes, asleep},
		{task(api.Ready, false, 7, 0, 0), "Sleep", yes, task(api.Wait, true, 7, 0, 0)},
		{task(api.Ready, false, 0, 1, 0), "Sleep", no, ready},
		{task(api.Ready, false, 2, 7, 0), "Sleep", no, task(api.Ready, false, 2, 6, 0)},
		{task(api.Wait, false, 0, 3, 0), "Sleep", obj, task(api.Wait, false, 0, 3, 0)}, // a wakeup helps only who is Ready
		{task(api.Susp, false, 0, 3, 1), "Sleep", obj, task(api.Susp, false, 0, 3, 1)},
	})
}

func TestSleepsAsLongAsWakeupsAreQueued(t *testing.T) {
	x := made(t, task(api.Ready, false, 0, 7, 0))
	for left := 6; left >= 0; left-- {
		if ok, code := x.Sleep(); ok || code != api.OK || *x != task(api.Ready, false, 0, left, 0) {
			t.Errorf("P1001: Sleep is %v, %v: %+v, not %d", ok, code, *x, left)
		}
	}
	if ok, code := x.Sleep(); !ok || code != api.OK || *x != asleep {
		t.Errorf("P1001: the last Sleep is %v, %v: %+v", ok, code, *x)
	}
}

func TestStay(t *testing.T) {
	for _, before := range allSeven {
		if before.State != api.Ready {
			step{before, "Stay", obj, before}.run(t)
		}
	}
	runAll(t, []step{
		{ready, "Stay", fine, waits},
		{task(api.Ready, false, 3, 4, 0), "Stay", fine, task(api.Wait, false, 3, 4, 0)}, // a wakeup is for a sleep
	})
}

func TestWake(t *testing.T) {
	runAll(t, []step{
		{dormant, "Wake", obj, dormant},
		{ready, "Wake", no, task(api.Ready, false, 0, 1, 0)},
		{asleep, "Wake", yes, ready},
		{waits, "Wake", no, task(api.Wait, false, 0, 1, 0)},
		{susp, "Wake", no, task(api.Susp, false, 0, 1, 1)},
		{asleepS, "Wake", yes, susp},
		{waitsS, "Wake", no, task(api.WaitSusp, false, 0, 1, 1)},
		{task(api.WaitSusp, true, 7, 0, 7), "Wake", yes, task(api.Susp, false, 7, 0, 7)},
		{task(api.Wait, true, 7, 0, 0), "Wake", yes, task(api.Ready, false, 7, 0, 0)},
	})
	for _, before := range []Task{ready, waits, susp, waitsS} {
		before.Wups = 6
		full := before
		full.Wups = 7
		step{before, "Wake", no, full}.run(t)
		step{full, "Wake", qovr, full}.run(t)
	}
}

func TestCanWake(t *testing.T) {
	step{dormant, "CanWake", obj, dormant}.run(t)
	for _, before := range allSeven[1:] {
		step{before, "CanWake", number(0), before}.run(t)
		for wups := 1; wups <= 7 && !before.Asleep; wups++ {
			queued := before
			queued.Wups = wups
			step{queued, "CanWake", number(wups), before}.run(t)
		}
	}
	step{task(api.WaitSusp, false, 5, 6, 7), "CanWake", number(6), task(api.WaitSusp, false, 5, 0, 7)}.run(t)
	x := made(t, task(api.Ready, false, 0, 7, 0))
	x.CanWake()
	if n, code := x.CanWake(); n != 0 || code != api.OK {
		t.Errorf("P1001: a second CanWake is %d, %v", n, code)
	}
	if ok, code := x.Sleep(); !ok || code != api.OK {
		t.Errorf("P1001: Sleep after CanWake is %v, %v", ok, code)
	}
}

func TestRelease(t *testing.T) {
	runAll(t, []step{
		{dormant, "Release", no, dormant},
		{ready, "Release", no, ready},
		{asleep, "Release", yes, ready},
		{waits, "Release", yes, ready},
		{susp, "Release", no, susp},
		{asleepS, "Release", yes, susp},
		{waitsS, "Release", yes, susp},
		{task(api.Ready, false, 1, 2, 0), "Release", no, task(api.Ready, false, 1, 2, 0)},
		{task(api.Susp, false, 1, 2, 3), "Release", no, task(api.Susp, false, 1, 2, 3)},
		{task(api.Wait, false, 1, 2, 0), "Release", yes, task(api.Ready, false, 1, 2, 0)},
		{task(api.WaitSusp, false, 1, 2, 3), "Release", yes, task(api.Susp, false, 1, 2, 3)},
		{task(api.WaitSusp, true, 1, 0, 7), "Release", yes, task(api.Susp, false, 1, 0, 7)},
	})
}

func TestSuspend(t *testing.T) {
	runAll(t, []step{
		{dormant, "Suspend", obj, dormant},
		{ready, "Suspend", fine, susp},
		{asleep, "Suspend", fine, asleepS},
		{waits, "Suspend", fine, waitsS},
		{susp, "Suspend", fine, task(api.Susp, false, 0, 0, 2)},
		{asleepS, "Suspend", fine, task(api.WaitSusp, true, 0, 0, 2)},
		{waitsS, "Suspend", fine, task(api.WaitSusp, false, 0, 0, 2)},
		{task(api.Ready, false, 7, 7, 0), "Suspend", fine, task(api.Susp, false, 7, 7, 1)},
		{task(api.Wait, false, 7, 7, 0), "Suspend", fine, task(api.WaitSusp, false, 7, 7, 1)},
	})
	for _, before := range []Task{susp, asleepS, waitsS} {
		before.Susps = 6
		full := before
		full.Susps = 7
		step{before, "Suspend", fine, full}.run(t)
		step{full, "Suspend", qovr, full}.run(t)
	}
}

func TestResume(t *testing.T) {
	for _, before := range []Task{dormant, ready, asleep, waits, task(api.Ready, false, 7, 7, 0), task(api.Wait, false, 7, 7, 0)} {
		step{before, "Resume(false)", obj, before}.run(t)
		step{before, "Resume(true)", obj, before}.run(t)
	}
	runAll(t, []step{
		{susp, "Resume(false)", yes, ready},
		{susp, "Resume(true)", yes, ready},
		{asleepS, "Resume(false)", no, asleep},
		{asleepS, "Resume(true)", no, asleep},
		{waitsS, "Resume(false)", no, waits},
		{waitsS, "Resume(true)", no, waits},
		{task(api.Susp, false, 3, 4, 2), "Resume(false)", no, task(api.Susp, false, 3, 4, 1)},
		{task(api.Susp, false, 3, 4, 2), "Resume(true)", yes, task(api.Ready, false, 3, 4, 0)},
		{task(api.Susp, false, 0, 0, 7), "Resume(false)", no, task(api.Susp, false, 0, 0, 6)},
		{task(api.Susp, false, 0, 0, 7), "Resume(true)", yes, ready},
		{task(api.WaitSusp, true, 3, 0, 7), "Resume(false)", no, task(api.WaitSusp, true, 3, 0, 6)},
		{task(api.WaitSusp, true, 3, 0, 7), "Resume(true)", no, task(api.Wait, true, 3, 0, 0)},
		{task(api.WaitSusp, false, 3, 4, 7), "Resume(false)", no, task(api.WaitSusp, false, 3, 4, 6)},
		{task(api.WaitSusp, false, 3, 4, 7), "Resume(true)", no, task(api.Wait, false, 3, 4, 0)},
	})
}

func TestResumedAsOftenAsSuspended(t *testing.T) {
	for _, before := range []Task{ready, asleep, waits} {
		for times := 1; times <= 7; times++ {
			x := made(t, before)
			for range times {
				x.Suspend()
			}
			for left := times - 1; left >= 0; left-- {
				ok, code := x.Resume(false)
				if ok != (left == 0 && before == ready) || code != api.OK || x.Susps != left {
					t.Errorf("P1001: Resume of %+v, suspended %d times, is %v, %v, with %d left", before, times, ok, code, x.Susps)
				}
			}
			if *x != before {
				t.Errorf("P1001: suspended and resumed %d times, %+v is %+v", times, before, *x)
			}
			if ok, code := x.Resume(false); ok || code != api.Obj {
				t.Errorf("P1001: Resume once too often is %v, %v", ok, code)
			}
		}
	}
}

// A wait that ends while the task is suspended leaves it suspended, as often as it was.
func TestSuspendedWhileItWaits(t *testing.T) {
	x := made(t, asleep)
	x.Suspend()
	x.Suspend()
	if ok, code := x.Wake(); !ok || code != api.OK || *x != task(api.Susp, false, 0, 0, 2) {
		t.Errorf("P1001: Wake of a suspended sleeper is %v, %v: %+v", ok, code, *x)
	}
	if ok, code := x.Wake(); ok || code != api.OK || *x != task(api.Susp, false, 0, 1, 2) {
		t.Errorf("P1001: a second Wake is %v, %v: %+v", ok, code, *x)
	}
	if ok, code := x.Resume(false); ok || code != api.OK || *x != task(api.Susp, false, 0, 1, 1) {
		t.Errorf("P1001: the first Resume is %v, %v: %+v", ok, code, *x)
	}
	if ok, code := x.Resume(false); !ok || code != api.OK || *x != task(api.Ready, false, 0, 1, 0) {
		t.Errorf("P1001: the second Resume is %v, %v: %+v", ok, code, *x)
	}
}

func TestIs(t *testing.T) {
	noStates := []int{math.MinInt, -16, -12, -8, -4, -2, -1, 0, 1, 3, 5, 6, 7, 9, 10, 13, 14, 15, 17, 18, 20, 24, 28, 30, 31, 32, 1<<32 + 16, 1 << 62, math.MaxInt}
	for _, before := range allSeven {
		x := made(t, before)
		own := x.State
		others := slices.DeleteFunc(slices.Clone(allSix), func(s int) bool { return s == own })
		if x.Is() || x.Is([]int{}...) || x.Is(nil...) {
			t.Errorf("P1001: %+v is in no state", before)
		}
		if !x.Is(own) || !x.Is(own, own) || !x.Is(allSix...) {
			t.Errorf("P1001: %+v is not in its own state", before)
		}
		for _, s := range append(slices.Clone(others), noStates...) {
			if x.Is(s) || !x.Is(s, own) || !x.Is(own, s) || !x.Is(s, own, s) {
				t.Errorf("P1001: Is of %d, of %+v", s, before)
			}
		}
		if x.Is(others...) || x.Is(noStates...) || !x.Is(append(others, own)...) || !x.Is(append(noStates, own)...) {
			t.Errorf("P1001: Is of several, of %+v", before)
		}
		if *x != before {
			t.Errorf("P1001: Is changed %+v to %+v", before, *x)
		}
	}
}

func TestIsLeavesItsArguments(t *testing.T) {
	states := []int{api.Wait, api.Dormant, api.Susp, api.Ready, 99, 98}
	New().Is(states[:3]...)
	if !slices.Equal(states, []int{api.Wait, api.Dormant, api.Susp, api.Ready, 99, 98}) {
		t.Errorf("P2: Is made its argument %v", states)
	}
}

func TestAny(t *testing.T) {
	for _, c := range []Counts{{1, 0, 0}, {0, 1, 0}, {0, 0, 1}, {7, 0, 0}, {0, 7, 0}, {0, 0, 7}, {1, 1, 0}, {0, 1, 1}, {1, 0, 1}, {7, 7, 7}, {-1, 1, 0}, {1, -2, 1}, {math.MinInt, 0, 0}, {0, 0, math.MaxInt}} {
		if !c.Any() || !(&Task{Counts: c}).Any() {
			t.Errorf("P1001: none of %+v", c)
		}
	}
	if (Counts{}).Any() || (&Task{State: api.WaitSusp, Asleep: true}).Any() {
		t.Error("P1001: Any of none")
	}
	x := made(t, ready)
	if x.Any() {
		t.Error("P1001: Any of a task that was activated once")
	}
	for _, name := range []string{"Act", "Wake", "Suspend"} {
		x := made(t, ready)
		named(t, name)(x)
		if !x.Any() {
			t.Errorf("P1001: Any after %s is false", name)
		}
	}
}

// The task's counts are those of its embedded Counts, and go with a copy.
func TestCountsArePromoted(t *testing.T) {
	x := made(t, task(api.Susp, false, 1, 2, 3))
	if x.Counts != (Counts{1, 2, 3}) || x.Acts != 1 || x.Wups != 2 || x.Susps != 3 {
		t.Errorf("P1001: the counts are %+v", x.Counts)
	}
	apart := *x
	apart.Kill()
	if x.Counts != (Counts{1, 2, 3}) || x.State != api.Susp {
		t.Errorf("P7: what happened to a copy made the task %+v", *x)
	}
}

// model is the chapter's task told by what happened to it, not by a state: the state follows.
type model struct {
	alive, waiting, sleeping bool
	acts, wups, susps        int
}

func (m model) task() Task {
	state := api.Dormant
	switch {
	case m.waiting && m.susps > 0:
		state = api.WaitSusp
	case m.waiting:
		state = api.Wait
	case m.susps > 0:
		state = api.Susp
	case m.alive:
		state = api.Ready
	}
	return task(state, m.sleeping, m.acts, m.wups, m.susps)
}

func (m *model) ready() bool { return m.alive && !m.waiting && m.susps == 0 }

func (m *model) queue(count *int) answer {
	if *count == 7 {
		return qovr
	}
	*count++
	return fine
}

func (m *model) end() answer {
	again := m.acts > 0
	left := m.acts - 1
	*m = model{}
	if again {
		*m = model{alive: true, acts: left}
	}
	return answer{yes: again}
}

func (m *model) wait(sleeping bool) { m.waiting, m.sleeping = true, sleeping }

func (m *model) wake() { m.waiting, m.sleeping = false, false }

func (m *model) resume(all bool) answer {
	if m.susps == 0 {
		return obj
	}
	m.susps--
	if all {
		m.susps = 0
	}
	return answer{yes: m.susps == 0 && !m.waiting}
}

// do makes a call that a dormant task takes, too, or that needs no count; the others are in doAlive.
func (m *model) do(name string) answer {
	switch name {
	case "Act":
		if !m.alive {
			m.alive = true
			return yes
		}
		return m.queue(&m.acts)
	case "CanAct":
		n := m.acts
		m.acts = 0
		return number(n)
	case "End":
		if !m.ready() {
			return no
		}
		return m.end()
	case "Release":
		waited := m.waiting
		m.wake()
		return answer{yes: waited}
	}
	if !m.alive {
		return obj
	}
	return m.doAlive(name)
}

func (m *model) doAlive(name string) answer {
	switch name {
	case "Kill":
		return m.end()
	case "Sleep":
		if !m.ready() {
			return obj
		}
		if m.wups > 0 {
			m.wups--
			return no
		}
		m.wait(true)
		return yes
	case "Stay":
		if !m.ready() {
			return obj
		}
		m.wait(false)
		return fine
	case "Wake":
		if m.sleeping {
			m.wake()
			return yes
		}
		return m.queue(&m.wups)
	case "CanWake":
		n := m.wups
		m.wups = 0
		return number(n)
	case "Suspend":
		return m.queue(&m.susps)
	case "Resume(false)":
		return m.resume(false)
	case "Resume(true)":
		return m.resume(true)
	}
	panic("no method " + name)
}

// Every task that can come about is reached, and every method called on it.
func TestEveryTaskThatCanComeAbout(t *testing.T) {
	start := model{}
	seen := map[model]bool{start: true}
	work := []model{start}
	for len(work) > 0 {
		m := work[0]
		work = work[1:]
		made(t, m.task())
		for _, call := range methods() {
			next, real := m, m.task()
			want, got := next.do(call.name), call.call(&real)
			if got != want || real != next.task() {
				t.Fatalf("P1001: %s of %+v returns %+v and leaves %+v, not %+v and %+v", call.name, m.task(), got, real, want, next.task())
			}
			if got.code != api.OK && (got.yes || got.num != 0 || real != m.task()) {
				t.Fatalf("P4, P5: %s of %+v returns %+v and leaves %+v", call.name, m.task(), got, real)
			}
			if !seen[next] {
				seen[next] = true
				work = append(work, next)
			}
		}
	}
	// One that is dormant; with eight numbers of activations those that do not sleep, with any wakeups and suspensions, waiting or not, and those that sleep, with no wakeup.
	if want := 1 + 8*(2*8*8+8); len(seen) != want {
		t.Errorf("P1001: %d tasks can come about, not %d", len(seen), want)
	}
}

func TestManyCallsAsTheModel(t *testing.T) {
	all := methods()
	for seed := range 16 {
		x, m := New(), model{}
		state := uint64(seed)*2862933555777941757 + 1
		for step := range 5000 {
			state = state*6364136223846793005 + 1442695040888963407
			call := all[int(state>>40)%len(all)]
			before := *x
			got, want := call.call(x), m.do(call.name)
			if got != want || *x != m.task() {
				t.Fatalf("P1001: seed %d, step %d: %s of %+v returns %+v and leaves %+v, not %+v and %+v", seed, step, call.name, before, got, *x, want, m.task())
			}
			if x.Any() != (m.acts+m.wups+m.susps > 0) || !x.Is(m.task().State) {
				t.Fatalf("P1001: seed %d, step %d: Any or Is of %+v", seed, step, *x)
			}
		}
	}
}

// Fields may be set from outside: no method panics, whatever they say.
func TestTasksThatNoCallMakes(t *testing.T) {
	odd := []int{math.MinInt, -1, 0, 1, 7, 8, math.MaxInt}
	for _, state := range append(slices.Clone(allSix), odd...) {
		for _, n := range odd {
			for _, sleeping := range []bool{false, true} {
				for _, call := range methods() {
					x := task(state, sleeping, n, n, n)
					if got := call.call(&x); got.code != api.OK && x != task(state, sleeping, n, n, n) {
						t.Errorf("P5: %s of state %d and counts %d left %+v", call.name, state, n, x)
					}
					x.Is(state, n)
					x.Any()
				}
			}
		}
	}
}
