// Package nums: times that go round. See doc/01-nums.md.
package nums

import "detent/api"

// Round: see the chapter.
const Round = 1 << 48

// A word of 64 bits has this many to spare beside a time.
const spareBits = 64 - 48

// Within these ranges a number rounded up still fits an int of 32 bits.
const (
	maxAlignNumber = 1 << 30
	maxAlignStep   = 4096
)

// Add may overflow the word unharmed: what is lost is a whole number of rounds.
func Add(t, d uint64) uint64 {
	return (t + d) % Round
}

// Gap shifts the difference to the top of the word and back, so that its bit 47 becomes the sign and the bits above it do not count.
func Gap(a, b uint64) int64 {
	return int64((b-a)<<spareBits) >> spareBits
}

func Due(at, now uint64) bool {
	return Gap(at, now) >= 0
}

func Rel(d int64) (uint64, api.Code) {
	if d < 0 || d > api.MaxRel {
		return 0, api.Par
	}
	return uint64(d), api.OK
}

// Ticks divides first and rounds up then, because d + tic - 1 may overflow.
func Ticks(d uint64, tic uint64) uint64 {
	if tic == 0 {
		return 0
	}
	whole := d / tic
	if d%tic != 0 {
		whole++
	}
	return whole
}

func Align(n, a int) int {
	if n < 0 || n > maxAlignNumber || a < 1 || a > maxAlignStep {
		return n
	}
	return (n + a - 1) / a * a
}

// Max starts from the first number, not from 0: all of them may be negative.
func Max(l ...int) int {
	if len(l) == 0 {
		return 0
	}
	greatest := l[0]
	for _, n := range l[1:] {
		greatest = max(greatest, n)
	}
	return greatest
}

// Min starts from the first number, not from 0: all of them may be positive.
func Min(l ...int) int {
	if len(l) == 0 {
		return 0
	}
	least := l[0]
	for _, n := range l[1:] {
		least = min(least, n)
	}
	return least
}
