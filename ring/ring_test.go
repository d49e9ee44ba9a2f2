package ring

import (
	"bytes"
	"math"
	"slices"
	"testing"

	"detent/api"
)

// made is a new ring, of a size that must be taken.
func made(t *testing.T, size int) *Ring {
	t.Helper()
	r, code := New(size)
	if code != api.OK || r == nil {
		t.Fatalf("P601: New(%d) is %v, %v", size, r, code)
	}
	return r
}

// filled is a new ring to which the messages were added.
func filled(t *testing.T, size int, msgs ...[]byte) *Ring {
	t.Helper()
	r := made(t, size)
	for _, m := range msgs {
		expectPut(t, r, m, true)
	}
	return r
}

// text is n bytes that differ from their neighbours and from those of other seeds, none of them 0, so that a byte out of its place is seen.
func text(n, seed int) []byte {
	b := make([]byte, n)
	for i := range b {
		b[i] = byte(1 + (i+37*seed)%251)
	}
	return b
}

// needs is what the chapter says that a message of n bytes occupies.
func needs(n int) int {
	for n%4 != 0 {
		n++
	}
	return 4 + n
}

// edgeLengths are asked of Fits beside each state.
var edgeLengths = []int{
	math.MinInt, math.MinInt + 1, -1 << 32, -1025, -1024, -8, -5, -4, -3, -2, -1,
	0, 1, 2, 3, 4, 5, 7, 8, 9, 1019, 1020, 1021, 1023, 1024, 1025, 1028, 2048, 65532, 65536,
	1 << 30, 1<<30 + 1, math.MaxInt32, 1 << 32, 1<<32 + 4, math.MaxInt - 7, math.MaxInt - 4, math.MaxInt - 3, math.MaxInt,
}

// expectState asks for all that can be observed of r without changing it, but the messages themselves.
func expectState(t *testing.T, r *Ring, size int, msgs ...[]byte) {
	t.Helper()
	free := size
	for _, m := range msgs {
		free -= needs(len(m))
	}
	if r.Size() != size || r.Free() != free || r.Len() != len(msgs) {
		t.Errorf("P601: Size, Free and Len are %d, %d and %d, not %d, %d and %d", r.Size(), r.Free(), r.Len(), size, free, len(msgs))
	}
	for _, n := range edgeLengths {
		expectFits(t, r, n, free)
	}
	for n := free - 9; n <= free+1; n++ {
		expectFits(t, r, n, free)
	}
}

func expectFits(t *testing.T, r *Ring, n, free int) {
	t.Helper()
	want := n >= 0 && n <= 1024 && needs(n) <= free
	if r.Fits(n) != want {
		t.Errorf("P601: Fits(%d) is %v where %d are free", n, !want, free)
	}
}

// expect asks for the messages too, of a twin, so that r stays.
func expect(t *testing.T, r *Ring, size int, msgs ...[]byte) {
	t.Helper()
	expectState(t, r, size, msgs...)
	twin := r.Twin()
	expectState(t, twin, size, msgs...)
	for i, m := range msgs {
		expectGet(t, twin, m)
		if twin.Len() != len(msgs)-i-1 {
			t.Errorf("P601: Len is %d after %d of %d messages", twin.Len(), i+1, len(msgs))
		}
	}
	expectNone(t, twin)
	expectState(t, twin, size)
}

func expectPut(t *testing.T, r *Ring, b []byte, want bool) {
	t.Helper()
	if ok := r.Put(b); ok != want {
		t.Errorf("P601: Put of %d bytes is %v", len(b), ok)
	}
}

func expectGet(t *testing.T, r *Ring, want []byte) {
	t.Helper()
	if b, ok := r.Get(); !ok || !bytes.Equal(b, want) {
		t.Errorf("P601: Get is %d bytes, %v, %v, not the %d bytes %v", len(b), b, ok, len(want), want)
	}
}

func expectNone(t *testing.T, r *Ring) {
	t.Helper()
	if b, ok := r.Get(); ok || len(b) != 0 {
		t.Errorf("P601, P4: Get of none is %v, %v", b, ok)
	}
}

// shifted is an empty ring whose next message begins at the byte at, a multiple of four.
func shifted(t *testing.T, size, at int) *Ring {
	t.Helper()
	r := made(t, size)
	for at > 0 {
		n := min(at-4, 1024)
		expectPut(t, r, text(n, 9), true)
		expectGet(t, r, text(n, 9))
		at -= 4 + n
	}
	return r
}

func TestTheExample(t *testing.T) {
	r := made(t, 24)
	for _, step := range []struct{ n, free int }{{5, 12}, {0, 8}, {3, 0}} {
		expectPut(t, r, text(step.n, step.n), true)
		if r.Free() != step.free {
			t.Errorf("P601: Free is %d behind a message of %d bytes, not %d", r.Free(), step.n, step.free)
		}
	}
	expectGet(t, r, text(5, 5))
	if r.Free() != 12 {
		t.Errorf("P601: Free is %d after Get, not 12", r.Free())
	}
	expect(t, r, 24, nil, text(3, 3))
}

func TestNewIsEmpty(t *testing.T) {
	for _, size := range []int{0, 4, 8, 12, 24, 1024, 1028, 1032, 4096, api.MaxArena - 4, api.MaxArena} {
		r := made(t, size)
		expect(t, r, size)
		expectNone(t, r)
		expect(t, r, size)
	}
}

func TestNewRefusesOtherSizes(t *testing.T) {
	for _, size := range []int{
		-1, -2, -3, -4, -5, -8, -1024, -api.MaxArena, -1 << 32, math.MinInt, math.MinInt + 1, math.MinInt + 4,
		1, 2, 3, 5, 6, 7, 9, 10, 11, 25, 1023, api.MaxArena - 3, api.MaxArena - 2, api.MaxArena - 1,
		api.MaxArena + 1, api.MaxArena + 2, api.MaxArena + 3, api.MaxArena + 4, 2 * api.MaxArena, 1 << 32, 1<<32 + 8, math.MaxInt - 3, math.MaxInt,
	} {
		if r, code := New(size); r != nil || code != api.Par {
			t.Errorf("P601, P4: New(%d) is %v, %v", size, r, code)
		}
	}
}

func TestNewIsNotShared(t *testing.T) {
	a, b := made(t, 24), made(t, 24)
	expectPut(t, a, text(20, 1), true)
	expect(t, b, 24)
	expectPut(t, b, text(3, 2), true)
	expect(t, a, 24, text(20, 1))
}

func TestARingOfNoBytes(t *testing.T) {
	zero := new(Ring) // P1 holds of it too
	for _, r := range []*Ring{made(t, 0), zero} {
		for _, n := range []int{0, 1, 3, 4, 5, api.MaxMsg, api.MaxMsg + 1} {
			expectPut(t, r, text(n, 1), false)
		}
		expectPut(t, r, nil, false)
		expectNone(t, r)
		expect(t, r, 0)
	}
}

func TestARingOfFourBytes(t *testing.T) {
	r := made(t, 4)
	for range 5 {
		expectPut(t, r, text(1, 1), false)
		expectPut(t, r, text(4, 1), false)
		expect(t, r, 4)
		expectPut(t, r, nil, true)
		expect(t, r, 4, nil)
		expectPut(t, r, nil, false)
		expectPut(t, r, text(1, 1), false)
		expect(t, r, 4, nil)
		expectGet(t, r, nil)
		expectNone(t, r)
	}
}

func TestARingOfMaxArenaBytes(t *testing.T) {
	const room = 4 + api.MaxMsg
	for _, at := range []int{0, 4, 520, api.MaxArena - 4} {
		r := shifted(t, api.MaxArena, at)
		var msgs [][]byte
		for i := range api.MaxArena / room {
			msgs = append(msgs, text(api.MaxMsg, i))
			expectPut(t, r, msgs[i], true)
		}
		expectPut(t, r, text(api.MaxMsg, 99), false)
		rest := text(api.MaxArena%room-4, 77)
		expectPut(t, r, text(len(rest)+1, 77), false)
		expect(t, r, api.MaxArena, msgs...)
		msgs = append(msgs, rest)
		expectPut(t, r, rest, true)
		expect(t, r, api.MaxArena, msgs...)
		if r.Free() != 0 {
			t.Errorf("P601: Free is %d", r.Free())
		}
	}
}

func TestAsManyMessagesAsTheGreatestRingTakes(t *testing.T) {
	r := shifted(t, api.MaxArena, 8)
	for i := range api.MaxArena / 4 {
		expectPut(t, r, nil, true)
		if r.Len() != i+1 || r.Free() != api.MaxArena-4*(i+1) {
			t.Fatalf("P601: Len and Free are %d and %d behind %d messages", r.Len(), r.Free(), i+1)
		}
	}
	expectPut(t, r, nil, false)
	for range api.MaxArena / 4 {
		expectGet(t, r, nil)
	}
	expectNone(t, r)
	expect(t, r, api.MaxArena)
}

func TestWhatAMessageOccupies(t *testing.T) {
	for n, want := range map[int]int{0: 4, 1: 8, 2: 8, 3: 8, 4: 8, 5: 12, 7: 12, 8: 12, 9: 16, 1020: 1024, 1021: 1028, 1023: 1028, 1024: 1028} {
		r := made(t, 2048)
		expectPut(t, r, text(n, 1), true)
		if r.Free() != 2048-want {
			t.Errorf("P601: a message of %d bytes occupies %d, not %d", n, 2048-r.Free(), want)
		}
		expect(t, r, 2048, text(n, 1))
		expectGet(t, r, text(n, 1))
		expect(t, r, 2048)
	}
}

func TestFits(t *testing.T) {
	for _, c := range []struct {
		size, n int
		want    bool
	}{
		{0, 0, false}, {0, -4, false}, {0, -1, false},
		{4, 0, true}, {4, 1, false}, {4, -1, false}, {4, -4, false},
		{8, 0, true}, {8, 1, true}, {8, 4, true}, {8, 5, false},
		{24, 20, true}, {24, 21, false}, {24, -1, false}, {24, math.MinInt, false}, {24, math.MaxInt, false},
		{1024, 1020, true}, {1024, 1021, false}, {1024, 1024, false},
		{1028, 1021, true}, {1028, 1024, true}, {1028, 1025, false},
		{4096, -1, false}, {4096, 0, true}, {4096, api.MaxMsg, true}, {4096, api.MaxMsg + 1, false}, {4096, 4092, false},
		{api.MaxArena, api.MaxMsg, true}, {api.MaxArena, api.MaxMsg + 1, false}, {api.MaxArena, math.MaxInt, false}, {api.MaxArena, math.MaxInt - 3, false},
	} {
		r := made(t, c.size)
		if r.Fits(c.n) != c.want {
			t.Errorf("P601: Fits(%d) is %v, in %d bytes", c.n, !c.want, c.size)
		}
		expect(t, r, c.size)
	}
}

func TestFitsBesideOtherMessages(t *testing.T) {
	r := filled(t, 1044, text(9, 1)) // 1028 are free, as many as the longest message occupies
	for n, want := range map[int]bool{-1: false, 0: true, api.MaxMsg - 1: true, api.MaxMsg: true, api.MaxMsg + 1: false} {
		if r.Fits(n) != want {
			t.Errorf("P601: Fits(%d) is %v, of 1028 bytes", n, !want)
		}
	}
	expectPut(t, r, nil, true)
	for n, want := range map[int]bool{-1: false, 0: true, api.MaxMsg - 4: true, api.MaxMsg - 3: false, api.MaxMsg: false} {
		if r.Fits(n) != want {
			t.Errorf("P601: Fits(%d) is %v, of 1024 bytes", n, !want)
		}
	}
}

func TestAMessageThatLeavesFreeAtNoughtAndOneAByteTooLong(t *testing.T) {
	for _, n := range []int{4, 8, 12, 20, 1020, 1024} {
		for _, before := range [][]byte{nil, text(1, 1), text(5, 2)} {
			size := needs(len(before)) + needs(n)
			r := filled(t, size, before)
			expectPut(t, r, text(n+1, 3), false)
			expect(t, r, size, before)
			expectPut(t, r, text(n, 3), true)
			expect(t, r, size, before, text(n, 3))
			if r.Free() != 0 {
				t.Errorf("P601: Free is %d behind a message of %d bytes", r.Free(), n)
			}
			expectPut(t, r, nil, false)
			expectGet(t, r, before)
			expect(t, r, size, text(n, 3))
		}
	}
}

func TestPutRefusesWhatIsLongerThanMaxMsg(t *testing.T) {
	r := filled(t, api.MaxArena, text(api.MaxMsg, 1))
	for _, n := range []int{api.MaxMsg + 1, api.MaxMsg + 4, 2 * api.MaxMsg, api.MaxArena - 4, api.MaxArena, api.MaxArena + 1, 1 << 20} {
		expectPut(t, r, text(n, 2), false)
		expect(t, r, api.MaxArena, text(api.MaxMsg, 1))
	}
	expectPut(t, r, text(api.MaxMsg, 2), true)
	expect(t, r, api.MaxArena, text(api.MaxMsg, 1), text(api.MaxMsg, 2))
}

func TestARefusedPutLeavesAllAsItWas(t *testing.T) {
	for at := 0; at < 24; at += 4 {
		r := shifted(t, 24, at)
		msgs := [][]byte{text(3, 1), nil, text(2, 2)}
		for _, m := range msgs {
			expectPut(t, r, m, true)
		}
		cost := r.Cost()
		for _, n := range []int{1, 4, 5, 8, 16, 20, 24, api.MaxMsg, api.MaxMsg + 1} {
			expectPut(t, r, text(n, 5), false)
			expectState(t, r, 24, msgs...)
		}
		if r.Cost() != cost {
			t.Errorf("P5: a refused Put touched %d bytes", r.Cost()-cost)
		}
		expect(t, r, 24, msgs...)
		expectPut(t, r, nil, true)
		expect(t, r, 24, append(msgs, nil)...)
	}
}

func TestGetOfNoneLeavesAllAsItWas(t *testing.T) {
	for at := 0; at < 24; at += 4 {
		r := shifted(t, 24, at)
		cost := r.Cost()
		for range 3 {
			expectNone(t, r)
			expectState(t, r, 24)
		}
		if r.Cost() != cost {
			t.Errorf("P5: Get of none touched %d bytes", r.Cost()-cost)
		}
		expectPut(t, r, text(20, 1), true)
		expect(t, r, 24, text(20, 1))
	}
}

func TestAMessageOfNoBytesIsAMessage(t *testing.T) {
	r := filled(t, 12, nil, []byte{}, nil)
	for left := 2; left >= 0; left-- {
		if b, ok := r.Get(); len(b) != 0 || !ok {
			t.Errorf("P601: Get of no bytes is %v, %v", b, ok)
		}
		if r.Len() != left || r.Free() != 12-4*left {
			t.Errorf("P601: Len and Free are %d and %d, with %d messages left", r.Len(), r.Free(), left)
		}
	}
	expectNone(t, r)
	r = filled(t, 24, nil, text(4, 1), nil)
	expect(t, r, 24, nil, text(4, 1), nil)
}

func TestFirstInFirstOut(t *testing.T) {
	var msgs [][]byte
	size := 0
	for i, n := range []int{0, 1, 3, 4, 5, 1024, 2, 0, 0, 1023, 7, 8, 9, 1, 1021, 1020, 4, 3, 0} {
		msgs = append(msgs, text(n, i))
		size += needs(n)
	}
	r := made(t, size)
	for i, m := range msgs {
		expectPut(t, r, m, true)
		expect(t, r, size, msgs[:i+1]...)
	}
	for i, m := range msgs {
		expectGet(t, r, m)
		expect(t, r, size, msgs[i+1:]...)
	}
}

func TestMessagesOfAnyBytes(t *testing.T) {
	all := make([]byte, 256)
	for i := range all {
		all[i] = byte(i)
	}
	for at := 0; at < 300; at += 4 {
		r := shifted(t, 300, at)
		msgs := [][]byte{bytes.Repeat([]byte{0}, 5), bytes.Repeat([]byte{255}, 7), all}
		for _, m := range msgs {
			expectPut(t, r, m, true)
		}
		expect(t, r, 300, msgs...)
	}
}

func TestEveryLengthGoesRoundTheEnd(t *testing.T) {
	for _, size := range []int{1028, 1032, 1036, 2060} {
		r := made(t, size)
		for n := 0; n <= api.MaxMsg; n++ {
			expectPut(t, r, text(n, n), true)
			expectState(t, r, size, text(n, n))
			expectGet(t, r, text(n, n))
			expectState(t, r, size)
		}
	}
}

func TestEveryLengthAtEveryPlace(t *testing.T) {
	for size := 4; size <= 48; size += 4 {
		for at := 0; at < size; at += 4 {
			for n := 0; n <= size-4; n++ {
				r := shifted(t, size, at)
				expectPut(t, r, text(n, 1), true)
				rest := size - needs(n) - 4 // what one more message may have
				if rest < 0 {
					expect(t, r, size, text(n, 1))
					continue
				}
				expectPut(t, r, text(rest+1, 2), false)
				expectPut(t, r, text(rest, 2), true)
				expect(t, r, size, text(n, 1), text(rest, 2))
			}
		}
	}
}

func TestTheLongestMessageAtEveryPlace(t *testing.T) {
	for _, size := range []int{1028, 1036, 1040} {
		r := made(t, size)
		for i := range 2 * size / 4 {
			expectPut(t, r, text(api.MaxMsg, i), true)
			expectState(t, r, size, text(api.MaxMsg, i))
			expectPut(t, r, text(5, i), size == 1040)
			expectGet(t, r, text(api.MaxMsg, i))
			if size == 1040 {
				expectGet(t, r, text(5, i))
			}
			expectNone(t, r)
			expectPut(t, r, nil, true) // so that the next ones begin elsewhere
			expectGet(t, r, nil)
		}
	}
}

func TestFilledEmptiedAndFilledAgain(t *testing.T) {
	for size := 4; size <= 64; size += 4 {
		for n := 0; n <= size-4; n++ {
			r := made(t, size)
			for round := range 20 {
				var msgs [][]byte
				for r.Put(text(n, round+len(msgs))) {
					msgs = append(msgs, text(n, round+len(msgs)))
				}
				if len(msgs) != size/needs(n) {
					t.Fatalf("P601: %d messages of %d bytes in a ring of %d", len(msgs), n, size)
				}
				expect(t, r, size, msgs...)
				for _, m := range msgs {
					expectGet(t, r, m)
				}
				expectNone(t, r)
				expect(t, r, size)
				expectPut(t, r, nil, true) // so that the next round begins elsewhere
				expectGet(t, r, nil)
			}
		}
	}
}

func TestOneOutOneIn(t *testing.T) {
	r := made(t, 40)
	var msgs [][]byte
	for i := range 500 {
		m := text(i%18, i)
		for !r.Put(m) {
			expect(t, r, 40, msgs...)
			expectGet(t, r, msgs[0])
			msgs = msgs[1:]
		}
		msgs = append(msgs, m)
		expect(t, r, 40, msgs...)
		if t.Failed() {
			t.Fatalf("P601: message %d", i)
		}
	}
}

func TestWhatIsHandedInIsNeitherChangedNorKept(t *testing.T) {
	for at := 0; at < 24; at += 4 {
		r := shifted(t, 24, at)
		whole := []byte("abcdefghij")
		expectPut(t, r, whole[:5], true) // the rest is unused capacity
		expectPut(t, r, whole[:9], false)
		if string(whole) != "abcdefghij" {
			t.Errorf("P2: what was handed in became %q", whole)
		}
		for i := range whole {
			whole[i] = 'x'
		}
		expect(t, r, 24, []byte("abcde"))
		expectGet(t, r, []byte("abcde"))
		for range 9 {
			expectPut(t, r, []byte("12345678"), true)
			expectGet(t, r, []byte("12345678"))
		}
		if string(whole) != "xxxxxxxxxx" {
			t.Errorf("P2: what was handed in was kept: it became %q", whole)
		}
	}
}

func TestWhatGetReturnsIsNewMemory(t *testing.T) {
	for at := 0; at < 32; at += 4 {
		for n := 0; n <= 12; n++ {
			r := shifted(t, 32, at)
			expectPut(t, r, text(n, 1), true)
			expectPut(t, r, text(8, 2), true)
			twin := r.Twin()
			first, _ := r.Get()
			second, _ := twin.Get()
			whole := first[:cap(first)]
			for i := range whole {
				whole[i] = 255
			}
			_ = append(second, 254, 254, 254, 254)
			if !bytes.Equal(second, text(n, 1)) {
				t.Errorf("P2: a change of one answer made the other %v", second)
			}
			expect(t, r, 32, text(8, 2))
			expect(t, twin, 32, text(8, 2))
			for range 8 {
				expectGet(t, r, text(8, 2))
				expectPut(t, r, text(8, 2), true)
			}
			if slices.ContainsFunc(whole, func(c byte) bool { return c != 255 }) {
				t.Errorf("P2: an answer was kept: it became %v", whole)
			}
		}
	}
}

func TestWhatGetReturnsMayBeHandedIn(t *testing.T) {
	r := filled(t, 40, text(5, 1), text(6, 2), nil)
	for range 3 * 7 {
		b, ok := r.Get()
		if !ok {
			t.Fatal("P601: a message is lost")
		}
		expectPut(t, r, b, true)
	}
	expect(t, r, 40, text(5, 1), text(6, 2), nil)
}

func TestTwinsGoTheirOwnWays(t *testing.T) {
	for at := 0; at < 40; at += 4 {
		r := shifted(t, 40, at)
		for i, n := range []int{5, 0, 3} {
			expectPut(t, r, text(n, i), true)
		}
		twin := r.Twin()
		if twin == r {
			t.Fatal("P601: the twin is the ring itself")
		}
		expect(t, twin, 40, text(5, 0), nil, text(3, 2))

		expectGet(t, r, text(5, 0))
		expectPut(t, r, text(20, 7), true)
		expect(t, twin, 40, text(5, 0), nil, text(3, 2))
		expect(t, r, 40, nil, text(3, 2), text(20, 7))

		third := twin.Twin()
		for range 3 {
			twin.Get()
		}
		expectPut(t, twin, text(36, 8), true)
		expect(t, r, 40, nil, text(3, 2), text(20, 7))
		expect(t, third, 40, text(5, 0), nil, text(3, 2))
		expect(t, twin, 40, text(36, 8))

		expectPut(t, third, text(12, 9), true)
		expectPut(t, r, nil, true)
		expect(t, twin, 40, text(36, 8))
		expect(t, third, 40, text(5, 0), nil, text(3, 2), text(12, 9))
		expect(t, r, 40, nil, text(3, 2), text(20, 7), nil)
	}
}

func TestATwinOfAnEmptyRing(t *testing.T) {
	for _, size := range []int{0, 4, 24, api.MaxArena} {
		r := made(t, size)
		twin := r.Twin()
		if size > 0 {
			expectPut(t, r, nil, true)
			expect(t, r, size, nil)
		}
		expect(t, twin, size)
	}
}

// A ring has its arena's methods too; whoever overwrites its bytes by them may spoil messages, but P1 holds.
func TestOverwrittenBytesDoNotPanic(t *testing.T) {
	for c := range 256 {
		for at := 0; at < 40; at += 4 {
			r := shifted(t, 40, at)
			for i, n := range []int{5, 0, 3} {
				expectPut(t, r, text(n, i), true)
			}
			r.Fill(0, 40, byte(c))
			for range 5 {
				r.Get()
				r.Put(text(3, 1))
				r.Fits(3)
				r.Twin().Get()
			}
			if r.Size() != 40 {
				t.Errorf("P601: Size is %d", r.Size())
			}
		}
	}
}

// steps is a row of numbers that is the same in each run.
type steps uint64

func (s *steps) below(n int) int {
	*s = *s*6364136223846793005 + 1442695040888963407
	return int((uint64(*s) >> 33) % uint64(n))
}

// length is mostly short, at times near to the longest or beyond it.
func (s *steps) length() int {
	switch s.below(6) {
	case 0:
		return s.below(api.MaxMsg + 8)
	case 1:
		return api.MaxMsg - 4 + s.below(8)
	}
	return s.below(40)
}

func (s *steps) text() []byte {
	b := make([]byte, s.length())
	for i := range b {
		b[i] = byte(s.below(256))
	}
	return b
}

func TestManyCallsAsTheModel(t *testing.T) {
	for seed, size := range []int{4, 8, 24, 100, 1024, 1028, 1032, 1500, 4096, 9000, api.MaxArena} {
		s := steps(seed)
		r := made(t, size)
		var msgs [][]byte // the chapter's messages, in order
		used := 0
		for step := range 600 {
			if s.below(8) < 5 {
				m := s.text()
				ok := len(m) <= api.MaxMsg && needs(len(m)) <= size-used
				expectPut(t, r, m, ok)
				if ok {
					msgs = append(msgs, m)
					used += needs(len(m))
				}
			} else if len(msgs) == 0 {
				expectNone(t, r)
			} else {
				expectGet(t, r, msgs[0])
				used -= needs(len(msgs[0]))
				msgs = msgs[1:]
			}
			if s.below(20) == 0 {
				r = r.Twin()
			}
			expectState(t, r, size, msgs...)
			if step%50 == 0 {
				expect(t, r, size, msgs...)
			}
			if t.Failed() {
				t.Fatalf("P601: size %d, step %d", size, step)
			}
		}
		expect(t, r, size, msgs...)
	}
}

func TestTheSameCallsAnswerTheSame(t *testing.T) {
	run := func() []byte {
		r := made(t, 64)
		var told []byte
		s := steps(5)
		for range 300 {
			if s.below(2) == 0 {
				r.Put(text(s.below(30), s.below(100)))
				continue
			}
			b, _ := r.Get()
			told = append(append(told, byte(len(b)), byte(r.Free()), byte(r.Len())), b...)
		}
		return told
	}
	if !bytes.Equal(run(), run()) {
		t.Error("P3: the same calls answer otherwise")
	}
}
