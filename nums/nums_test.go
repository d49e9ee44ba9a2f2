package nums

import (
	"math"
	"math/big"
	"slices"
	"testing"

	"detent/api"
)

// top is the last time of the round; half is the least gap that counts as earlier.
const (
	top  = Round - 1
	half = Round / 2
)

// edgeTimes are the places where the round, the sign of a gap, or the word of 64 bits turns over.
var edgeTimes = []uint64{
	0, 1, 2, 5, half - 1, half, half + 1, top - 1, top,
	Round, Round + 1, Round + half - 1, Round + half, 2*Round - 1, 5*Round + 7,
	1<<63 - 1, 1 << 63, 1<<63 + 1, math.MaxUint64 - 1, math.MaxUint64,
}

// wrapped is x modulo 2^48 in numbers without end, so that the tests do not lean on the arithmetic under test.
func wrapped(x *big.Int) *big.Int {
	return new(big.Int).Mod(x, big.NewInt(Round))
}

func word(x uint64) *big.Int {
	return new(big.Int).SetUint64(x)
}

func TestRoundIsTwoToTheFortyEighth(t *testing.T) {
	if Round != 281474976710656 {
		t.Errorf("P101: Round is %d", uint64(Round))
	}
}

func TestAddGoesRound(t *testing.T) {
	for _, c := range []struct{ t, d, want uint64 }{
		{0, 0, 0},
		{5, 7, 12},
		{top - 1, 1, top},
		{top, 1, 0},
		{1, top, 0},
		{top, top, top - 1},
		{half, half, 0},
		{Round, 0, 0},
		{0, Round, 0},
		{Round + 3, Round + 4, 7},
		{math.MaxUint64, 0, top},
		{math.MaxUint64, 1, 0},
		{math.MaxUint64, math.MaxUint64, top - 1},
		{1 << 63, 1 << 63, 0},
	} {
		if got := Add(c.t, c.d); got != c.want {
			t.Errorf("P101: Add(%d, %d) is %d, not %d", c.t, c.d, got, c.want)
		}
	}
}

func TestAddAtAllEdges(t *testing.T) {
	for _, a := range edgeTimes {
		for _, b := range edgeTimes {
			want := wrapped(new(big.Int).Add(word(a), word(b))).Uint64()
			if got := Add(a, b); got != want {
				t.Errorf("P101: Add(%d, %d) is %d, not %d", a, b, got, want)
			}
		}
	}
}

func TestGapIsSigned(t *testing.T) {
	for _, c := range []struct {
		a, b uint64
		want int64
	}{
		{0, 0, 0},
		{1, 5, 4},
		{5, 1, -4},
		{top, 0, 1},
		{0, top, -1},
		{0, half - 1, half - 1},
		{0, half, -half},
		{0, half + 1, -half + 1},
		{half, 0, -half},
		{half + 1, 0, half - 1},
		{half - 1, 0, -half + 1},
		{7, Round + 7, 0},
		{Round + 7, 7, 0},
		{1 << 63, 2, 2},
		{2, 1 << 63, -2},
		{math.MaxUint64, 0, 1},
		{0, math.MaxUint64, -1},
	} {
		if got := Gap(c.a, c.b); got != c.want {
			t.Errorf("P101: Gap(%d, %d) is %d, not %d", c.a, c.b, got, c.want)
		}
	}
}

func TestGapAtAllEdges(t *testing.T) {
	for _, a := range edgeTimes {
		for _, b := range edgeTimes {
			want := wrapped(new(big.Int).Sub(word(b), word(a))).Int64()
			if want >= half {
				want -= Round
			}
			if got := Gap(a, b); got != want {
				t.Errorf("P101: Gap(%d, %d) is %d, not %d", a, b, got, want)
			}
			if got := Due(a, b); got != (want >= 0) {
				t.Errorf("P101: Due(%d, %d) is %v with a gap of %d", a, b, got, want)
			}
		}
	}
}

func TestDueFromItsTimeOnForHalfARound(t *testing.T) {
	for _, c := range []struct {
		at, now uint64
		want    bool
	}{
		{5, 4, false},
		{5, 5, true},
		{5, 6, true},
		{0, top, false},
		{top, top, true},
		{top, 0, true},
		{0, half - 1, true},
		{0, half, false},
		{half, 0, false},
		{half + 1, 0, true},
		{Round + 5, 5, true},
		{Round + 5, 4, false},
		{5, math.MaxUint64, false},
	} {
		if got := Due(c.at, c.now); got != c.want {
			t.Errorf("P101: Due(%d, %d) is %v", c.at, c.now, got)
		}
	}
}

func TestRelTakesZeroToMaxRel(t *testing.T) {
	for _, d := range []int64{0, 1, 2, 1000, api.MaxRel - 1, api.MaxRel} {
		if got, code := Rel(d); got != uint64(d) || code != api.OK {
			t.Errorf("P101: Rel(%d) is %d, %v", d, got, code)
		}
	}
}

func TestRelRefusesWhatIsBeyond(t *testing.T) {
	for _, d := range []int64{-1, -2, api.Forever, -api.MaxRel, math.MinInt64, api.MaxRel + 1, 1 << 32, 1<<32 + 5, Round, Round + 5, math.MaxInt64} {
		if got, code := Rel(d); got != 0 || code != api.Par {
			t.Errorf("P101, P4: Rel(%d) is %d, %v", d, got, code)
		}
	}
}

func TestTicksRoundsUp(t *testing.T) {
	for _, c := range []struct{ d, tic, want uint64 }{
		{0, 5, 0},
		{1, 5, 1},
		{4, 5, 1},
		{5, 5, 1},
		{6, 5, 2},
		{10, 5, 2},
		{11, 5, 3},
		{7, 1, 7},
		{math.MaxUint64, 2, 1 << 63},
		{math.MaxUint64 - 1, 2, 1<<63 - 1},
		{1, math.MaxUint64, 1},
		{math.MaxUint64, math.MaxUint64, 1},
		{math.MaxUint64, math.MaxUint64 - 1, 2},
		{math.MaxUint64 - 1, math.MaxUint64, 1},
	} {
		if got := Ticks(c.d, c.tic); got != c.want {
			t.Errorf("P101: Ticks(%d, %d) is %d, not %d", c.d, c.tic, got, c.want)
		}
	}
}

func TestTicksOfNoTic(t *testing.T) {
	for _, d := range []uint64{0, 1, 9, Round, math.MaxUint64} {
		if got := Ticks(d, 0); got != 0 {
			t.Errorf("P101: Ticks(%d, 0) is %d", d, got)
		}
	}
}

func TestTicksDoesNotGoRound(t *testing.T) {
	for _, c := range []struct{ d, tic, want uint64 }{
		{Round, 1, Round},
		{Round + 1, 1, Round + 1},
		{Round + 1, 2, Round/2 + 1},
		{5, Round, 1},
		{Round, Round, 1},
		{Round + 1, Round, 2},
		{5, Round + 2, 1},
		{math.MaxUint64, 1, math.MaxUint64},
	} {
		if got := Ticks(c.d, c.tic); got != c.want {
			t.Errorf("P101: Ticks(%d, %d) is %d, not %d", c.d, c.tic, got, c.want)
		}
	}
}

func TestAlign(t *testing.T) {
	for _, c := range []struct{ n, a, want int }{
		{0, 1, 0},
		{0, 4, 0},
		{0, 4096, 0},
		{1, 4, 4},
		{3, 4, 4},
		{4, 4, 4},
		{5, 4, 8},
		{5, 3, 6},
		{6, 3, 6},
		{7, 1, 7},
		{1, 4095, 4095},
		{1, 4096, 4096},
		{4096, 4096, 4096},
		{4097, 4096, 8192},
		{1 << 30, 1, 1 << 30},
		{1 << 30, 3, 1<<30 + 2},
		{1 << 30, 4095, 1073745855},
		{1 << 30, 4096, 1 << 30},
		{1<<30 - 1, 4096, 1 << 30},
	} {
		if got := Align(c.n, c.a); got != c.want {
			t.Errorf("P101: Align(%d, %d) is %d, not %d", c.n, c.a, got, c.want)
		}
	}
}

func TestAlignIsTheLeastMultiple(t *testing.T) {
	for _, a := range []int{1, 2, 3, 5, 7, 8, 12, 100, 1000, 4095, 4096} {
		for _, from := range []int{0, a, 10 * a, 1<<30 - 2*a - 2} {
			for n := from; n <= from+2*a+2; n++ {
				if got := Align(n, a); got%a != 0 || got < n || got-n >= a {
					t.Fatalf("P101: Align(%d, %d) is %d", n, a, got)
				}
			}
		}
	}
}

func TestAlignLeavesWhatIsBeyond(t *testing.T) {
	for _, n := range []int{math.MinInt, -4096, -3, -1, 1<<30 + 1, 1<<30 + 3, math.MaxInt} {
		for _, a := range []int{1, 2, 4, 4096} {
			if got := Align(n, a); got != n {
				t.Errorf("P101: Align(%d, %d) is %d", n, a, got)
			}
		}
	}
	for _, a := range []int{math.MinInt, -4, -1, 0, 4097, 8192, math.MaxInt} {
		for _, n := range []int{math.MinInt, -1, 0, 1, 5, 1 << 30, 1<<30 + 1, math.MaxInt} {
			if got := Align(n, a); got != n {
				t.Errorf("P101: Align(%d, %d) is %d", n, a, got)
			}
		}
	}
}

func TestMaxAndMin(t *testing.T) {
	for _, c := range []struct {
		l           []int
		least, most int
	}{
		{nil, 0, 0},
		{[]int{}, 0, 0},
		{[]int{7}, 7, 7},
		{[]int{-7}, -7, -7},
		{[]int{0}, 0, 0},
		{[]int{3, 3, 3}, 3, 3},
		{[]int{1, 2, 3}, 1, 3},
		{[]int{3, 2, 1}, 1, 3},
		{[]int{2, 3, 1}, 1, 3},
		{[]int{2, 1, 3, 2}, 1, 3},
		{[]int{-5, -2, -9}, -9, -2},
		{[]int{4, 3, 8}, 3, 8},
		{[]int{math.MaxInt, 0, math.MinInt}, math.MinInt, math.MaxInt},
		{[]int{math.MinInt}, math.MinInt, math.MinInt},
		{[]int{math.MaxInt}, math.MaxInt, math.MaxInt},
	} {
		if got := Max(c.l...); got != c.most {
			t.Errorf("P101: Max of %v is %d, not %d", c.l, got, c.most)
		}
		if got := Min(c.l...); got != c.least {
			t.Errorf("P101: Min of %v is %d, not %d", c.l, got, c.least)
		}
	}
	if Max() != 0 || Min() != 0 {
		t.Errorf("P101: Max and Min of none are %d and %d", Max(), Min())
	}
	if Max(4, 9, 2) != 9 || Min(4, 1, 2) != 1 {
		t.Errorf("P101: Max and Min of numbers in the call are %d and %d", Max(4, 9, 2), Min(4, 1, 2))
	}
}

func TestMaxAndMinLeaveTheirNumbers(t *testing.T) {
	whole := []int{5, -1, 9, 3, 100, -100}
	before := slices.Clone(whole)
	part := whole[:4]
	if Max(part...) != 9 || Min(part...) != -1 {
		t.Errorf("P101: Max and Min of %v are %d and %d", part, Max(part...), Min(part...))
	}
	if !slices.Equal(whole, before) {
		t.Errorf("P2: the numbers became %v", whole)
	}
}
