package arena

import (
	"bytes"
	"math"
	"slices"
	"testing"

	"detent/api"
)

// made is a new arena, of a size that must be taken.
func made(t *testing.T, size int) *Arena {
	t.Helper()
	a, code := New(size)
	if code != api.OK || a == nil {
		t.Fatalf("P201: New(%d) is %v, %v", size, a, code)
	}
	return a
}

// counted is a new arena whose bytes are 1, 2, 3 and so on, so that each place tells itself.
func counted(t *testing.T, size int) *Arena {
	t.Helper()
	a := made(t, size)
	if code := a.Write(0, row(size)); code != api.OK {
		t.Fatalf("P201: Write of %d bytes is %v", size, code)
	}
	return a
}

func row(n int) []byte {
	b := make([]byte, n)
	for i := range b {
		b[i] = byte(i + 1)
	}
	return b
}

// content is all that the arena holds, read from a twin so that the cost of a stays.
func content(t *testing.T, a *Arena) []byte {
	t.Helper()
	b, code := a.Twin().Read(0, a.Size())
	if code != api.OK {
		t.Fatalf("P201: Read of all %d bytes is %v", a.Size(), code)
	}
	return b
}

func expect(t *testing.T, a *Arena, want []byte, cost int) {
	t.Helper()
	if got := content(t, a); !bytes.Equal(got, want) {
		t.Errorf("P201: the bytes are %v, not %v", got, want)
	}
	if a.Cost() != cost {
		t.Errorf("P201: the cost is %d, not %d", a.Cost(), cost)
	}
}

// badRanges lie not completely inside an arena of 10 bytes.
var badRanges = [][2]int{
	{-1, 0}, {-1, 1}, {-1, 5}, {-5, 5}, {-10, 20}, {math.MinInt, 0}, {math.MinInt, 1},
	{0, -1}, {5, -1}, {10, -1}, {11, -1}, {0, math.MinInt}, {5, math.MinInt}, {10, math.MinInt},
	{0, 11}, {1, 10}, {5, 6}, {9, 2}, {10, 1}, {0, api.MaxArena}, {0, math.MaxInt},
	{11, 0}, {11, 1}, {12, 0}, {api.MaxArena, 0}, {math.MaxInt, 0},
	{1, math.MaxInt}, {10, math.MaxInt}, {math.MaxInt, 1}, {math.MaxInt, 2}, {math.MaxInt, 10}, {math.MaxInt, math.MaxInt},
	{1 << 62, 1 << 62}, {math.MaxInt, math.MinInt}, {math.MinInt, math.MaxInt}, {math.MinInt, math.MinInt}, {-1, math.MinInt}, {-1, math.MaxInt},
}

func TestNewIsAllZero(t *testing.T) {
	for _, size := range []int{0, 1, 2, 3, 4, 10, 4096, api.MaxArena - 1, api.MaxArena} {
		a := made(t, size)
		if a.Size() != size || a.Cost() != 0 {
			t.Errorf("P201: New(%d) has the size %d and the cost %d", size, a.Size(), a.Cost())
		}
		b, code := a.Read(0, size)
		if code != api.OK || !bytes.Equal(b, make([]byte, size)) {
			t.Errorf("P201: New(%d) reads %d bytes, %v, or not all 0", size, len(b), code)
		}
	}
}

func TestNewRefusesSizesBeyond(t *testing.T) {
	for _, size := range []int{-1, -2, -api.MaxArena, math.MinInt, api.MaxArena + 1, 2 * api.MaxArena, 1 << 32, math.MaxInt} {
		if a, code := New(size); a != nil || code != api.Par {
			t.Errorf("P201, P4: New(%d) is %v, %v", size, a, code)
		}
	}
}

func TestNewIsNotShared(t *testing.T) {
	a, b := made(t, 8), made(t, 8)
	a.Fill(0, 8, 1)
	expect(t, b, make([]byte, 8), 0)
}

func TestReadTakesItsRange(t *testing.T) {
	a := counted(t, 10)
	cost := 10
	for at := 0; at <= 10; at++ {
		for n := 0; n <= 10-at; n++ {
			b, code := a.Read(at, n)
			cost += n
			if code != api.OK || !bytes.Equal(b, row(10)[at:at+n]) {
				t.Errorf("P201: Read(%d, %d) is %v, %v", at, n, b, code)
			}
			if a.Cost() != cost {
				t.Errorf("P201: the cost after Read(%d, %d) is %d, not %d", at, n, a.Cost(), cost)
			}
		}
	}
	expect(t, a, row(10), cost)
}

func TestReadRefusesWhatIsNotInside(t *testing.T) {
	a := counted(t, 10)
	for _, r := range badRanges {
		if b, code := a.Read(r[0], r[1]); code != api.Par || len(b) != 0 {
			t.Errorf("P201, P4: Read(%d, %d) is %v, %v", r[0], r[1], b, code)
		}
	}
	expect(t, a, row(10), 10)
}

func TestReadIsNewMemory(t *testing.T) {
	a := counted(t, 10)
	first, _ := a.Read(2, 4)
	second, _ := a.Read(2, 4)
	whole := first[:cap(first)]
	for i := range whole {
		whole[i] = 99
	}
	if !bytes.Equal(second, row(10)[2:6]) {
		t.Errorf("P2: a change of one answer made the other %v", second)
	}
	expect(t, a, row(10), 18)
	a.Fill(0, 10, 7)
	if !bytes.Equal(second, row(10)[2:6]) {
		t.Errorf("P2: a change of the arena made the answer %v", second)
	}
	none, _ := a.Read(0, 0)
	_ = append(none, 55)
	expect(t, a, bytes.Repeat([]byte{7}, 10), 28)
}

func TestWriteOfOnePart(t *testing.T) {
	for at := 0; at <= 10; at++ {
		for n := 0; n <= 10-at; n++ {
			a := made(t, 10)
			want := make([]byte, 10)
			copy(want[at:], row(n))
			if code := a.Write(at, row(n)); code != api.OK {
				t.Errorf("P201: Write(%d) of %d bytes is %v", at, n, code)
			}
			expect(t, a, want, n)
		}
	}
}

func TestWriteOfSeveralParts(t *testing.T) {
	for _, c := range []struct {
		at    int
		parts []string
		want  string
	}{
		{2, []string{"abc", "", "de"}, "..abcde..."},
		{0, []string{"a", "b", "c"}, "abc......."},
		{0, []string{"", "ab", "", "", "c", ""}, "abc......."},
		{0, []string{"abcde", "fghij"}, "abcdefghij"},
		{8, []string{"x", "y"}, "........xy"},
		{9, []string{"", "x", ""}, ".........x"},
		{4, []string{"", ""}, ".........."},
		{10, []string{"", "", ""}, ".........."},
	} {
		a := made(t, 10)
		a.Fill(0, 10, '.')
		if code := a.Write(c.at, parts(c.parts)...); code != api.OK {
			t.Errorf("P201: Write(%d, %q) is %v", c.at, c.parts, code)
		}
		cost := 10
		for _, p := range c.parts {
			cost += len(p)
		}
		expect(t, a, []byte(c.want), cost)
	}
}

func parts(texts []string) [][]byte {
	var l [][]byte
	for _, s := range texts {
		l = append(l, []byte(s))
	}
	return l
}

func TestWriteOfNoParts(t *testing.T) {
	a := counted(t, 10)
	for _, at := range []int{0, 1, 9, 10} {
		for i, code := range []api.Code{a.Write(at), a.Write(at, nil), a.Write(at, []byte{}), a.Write(at, nil, []byte{}, nil)} {
			if code != api.OK {
				t.Errorf("P201: Write(%d) of nothing, way %d, is %v", at, i, code)
			}
		}
	}
	for _, at := range []int{-1, 11, 12, math.MinInt, math.MaxInt} {
		for i, code := range []api.Code{a.Write(at), a.Write(at, nil), a.Write(at, []byte{}), a.Write(at, nil, []byte{}, nil)} {
			if code != api.Par {
				t.Errorf("P201: Write(%d) of nothing, way %d, is %v", at, i, code)
			}
		}
	}
	expect(t, a, row(10), 10)
}

func TestWriteRefusesWhatIsNotInside(t *testing.T) {
	for _, c := range []struct {
		at    int
		parts []string
	}{
		{-1, []string{"x"}},
		{-1, []string{"", "xy"}},
		{-3, []string{"abc", "de"}},
		{math.MinInt, []string{"x"}},
		{10, []string{"x"}},
		{9, []string{"xy"}},
		{9, []string{"x", "y"}},
		{9, []string{"x", "", "y"}},
		{0, []string{"abcdefghijk"}},
		{0, []string{"abcde", "fghij", "k"}},
		{5, []string{"ab", "cd", "ef"}},
		{11, []string{"x"}},
		{math.MaxInt, []string{"x"}},
		{math.MaxInt, []string{"x", "y"}},
		{math.MaxInt - 1, []string{"abc", "def"}},
	} {
		a := counted(t, 10)
		if code := a.Write(c.at, parts(c.parts)...); code != api.Par {
			t.Errorf("P201: Write(%d, %q) is %v", c.at, c.parts, code)
		}
		expect(t, a, row(10), 10)
	}
}

func TestWriteOfMoreThanAnyArenaTakes(t *testing.T) {
	a := made(t, api.MaxArena)
	great := bytes.Repeat([]byte{9}, api.MaxArena+1)
	for i, code := range []api.Code{
		a.Write(0, great),
		a.Write(0, great[:api.MaxArena], great[:1]),
		a.Write(0, great[:1], great[:api.MaxArena]),
		a.Write(0, great, great, great),
		a.Write(0, great[:api.MaxArena], nil, great[:api.MaxArena]),
		a.Write(1, great[:api.MaxArena]),
		a.Write(api.MaxArena, great[:1]),
	} {
		if code != api.Par {
			t.Errorf("P201: Write of too much, way %d, is %v", i, code)
		}
	}
	expect(t, a, make([]byte, api.MaxArena), 0)
	if code := a.Write(0, great[:1], great[:api.MaxArena-1], nil); code != api.OK {
		t.Errorf("P201: Write of all of the greatest arena is %v", code)
	}
	expect(t, a, great[:api.MaxArena], api.MaxArena)
}

func TestWriteLeavesItsParts(t *testing.T) {
	a := made(t, 10)
	whole := []byte("abcdef")
	list := [][]byte{whole[:2], whole[1:3], []byte("xyz")}
	before := [][]byte{[]byte("ab"), []byte("bc")}
	if code := a.Write(1, list[:2]...); code != api.OK {
		t.Fatalf("P201: Write of parts that overlap is %v", code)
	}
	a.Write(9, list[:2]...)
	if string(whole) != "abcdef" || !slices.EqualFunc(list[:2], before, bytes.Equal) || string(list[2]) != "xyz" {
		t.Errorf("P2: the parts became %q of %q", list, whole)
	}
	whole[0], whole[1] = 'X', 'Y'
	list[0] = nil
	expect(t, a, []byte("\x00abbc\x00\x00\x00\x00\x00"), 4)
	a.Fill(0, 10, 1)
	if string(whole) != "XYcdef" {
		t.Errorf("P2: a part was kept: it became %q", whole)
	}
}

func TestFillSetsItsRange(t *testing.T) {
	for at := 0; at <= 10; at++ {
		for n := 0; n <= 10-at; n++ {
			a := counted(t, 10)
			want := row(10)
			for i := at; i < at+n; i++ {
				want[i] = 200
			}
			if code := a.Fill(at, n, 200); code != api.OK {
				t.Errorf("P201: Fill(%d, %d, 200) is %v", at, n, code)
			}
			expect(t, a, want, 10+n)
		}
	}
}

func TestFillWithEdgesOfAByte(t *testing.T) {
	a := counted(t, 4)
	a.Fill(0, 2, 0)
	a.Fill(2, 2, 255)
	expect(t, a, []byte{0, 0, 255, 255}, 8)
}

func TestFillRefusesWhatIsNotInside(t *testing.T) {
	a := counted(t, 10)
	for _, r := range badRanges {
		if code := a.Fill(r[0], r[1], 200); code != api.Par {
			t.Errorf("P201: Fill(%d, %d, 200) is %v", r[0], r[1], code)
		}
	}
	expect(t, a, row(10), 10)
}

func TestWordHasItsLeastByteFirst(t *testing.T) {
	a := made(t, 12)
	a.Write(0, []byte{1, 2, 3, 4}, []byte{0xff, 0, 0, 0x80}, []byte{0xff, 0xff, 0xff, 0xff})
	for i, want := range []uint32{0x04030201, 0x800000ff, math.MaxUint32} {
		w, code := a.Word(4 * i)
		if w != want || code != api.OK {
			t.Errorf("P201: Word(%d) is %#x, %v, not %#x", 4*i, w, code, want)
		}
		if a.Cost() != 12+4*(i+1) {
			t.Errorf("P201: the cost after Word(%d) is %d", 4*i, a.Cost())
		}
	}
}

func TestPutWordHasItsLeastByteFirst(t *testing.T) {
	a := made(t, 12)
	for i, w := range []uint32{0x04030201, 0x800000ff, math.MaxUint32} {
		if code := a.PutWord(4*i, w); code != api.OK {
			t.Errorf("P201: PutWord(%d, %#x) is %v", 4*i, w, code)
		}
	}
	expect(t, a, []byte{1, 2, 3, 4, 0xff, 0, 0, 0x80, 0xff, 0xff, 0xff, 0xff}, 12)
	a.PutWord(4, 0)
	expect(t, a, []byte{1, 2, 3, 4, 0, 0, 0, 0, 0xff, 0xff, 0xff, 0xff}, 16)
	if w, code := a.Word(0); w != 0x04030201 || code != api.OK {
		t.Errorf("P201: Word after PutWord is %#x, %v", w, code)
	}
}

func TestWordsOnlyAtMultiplesOfFourInside(t *testing.T) {
	for size := 0; size <= 13; size++ {
		for at := -9; at <= 17; at++ {
			a := counted(t, size)
			inside := at >= 0 && at%4 == 0 && at+4 <= size
			w, read := a.Word(at)
			put := a.PutWord(at, 0xa3a2a1a0)
			if !inside {
				if w != 0 || read != api.Par || put != api.Par {
					t.Errorf("P201, P4: at %d of %d Word is %#x, %v, and PutWord %v", at, size, w, read, put)
				}
				expect(t, a, row(size), size)
				continue
			}
			was := row(size)[at:]
			if want := uint32(was[0]) + 256*uint32(was[1]) + 65536*uint32(was[2]) + 16777216*uint32(was[3]); w != want || read != api.OK || put != api.OK {
				t.Errorf("P201: at %d of %d Word is %#x, %v, and PutWord %v", at, size, w, read, put)
			}
			want := row(size)
			copy(want[at:], []byte{0xa0, 0xa1, 0xa2, 0xa3})
			expect(t, a, want, size+8)
		}
	}
}

func TestWordsFarBeyond(t *testing.T) {
	a := counted(t, 12)
	for _, at := range []int{math.MinInt, math.MinInt + 1, math.MinInt + 4, -1 << 32, 1 << 32, math.MaxInt - 4, math.MaxInt - 3, math.MaxInt} {
		if w, code := a.Word(at); w != 0 || code != api.Par {
			t.Errorf("P201, P4: Word(%d) is %#x, %v", at, w, code)
		}
		if code := a.PutWord(at, 1); code != api.Par {
			t.Errorf("P201: PutWord(%d, 1) is %v", at, code)
		}
	}
	expect(t, a, row(12), 12)
}

func TestTheLastWordOfTheGreatestArena(t *testing.T) {
	a := made(t, api.MaxArena)
	if code := a.PutWord(api.MaxArena-4, 0x04030201); code != api.OK {
		t.Errorf("P201: PutWord of the last word is %v", code)
	}
	if w, code := a.Word(api.MaxArena - 4); w != 0x04030201 || code != api.OK {
		t.Errorf("P201: the last word is %#x, %v", w, code)
	}
	if w, code := a.Word(api.MaxArena); w != 0 || code != api.Par {
		t.Errorf("P201: the word behind the last is %#x, %v", w, code)
	}
	if b, code := a.Read(api.MaxArena-5, 5); code != api.OK || !bytes.Equal(b, []byte{0, 1, 2, 3, 4}) {
		t.Errorf("P201: the last bytes are %v, %v", b, code)
	}
}

func TestAnArenaOfNoBytes(t *testing.T) {
	a := made(t, 0)
	if b, code := a.Read(0, 0); len(b) != 0 || code != api.OK {
		t.Errorf("P201: Read(0, 0) of no bytes is %v, %v", b, code)
	}
	for i, code := range []api.Code{a.Write(0), a.Write(0, nil), a.Fill(0, 0, 1)} {
		if code != api.OK {
			t.Errorf("P201: call %d on no bytes is %v", i, code)
		}
	}
	for i, code := range []api.Code{a.Write(1), a.Write(0, []byte("x")), a.Fill(0, 1, 1), a.Fill(1, 0, 1), a.PutWord(0, 1)} {
		if code != api.Par {
			t.Errorf("P201: call %d on no bytes is %v", i, code)
		}
	}
	if w, code := a.Word(0); w != 0 || code != api.Par {
		t.Errorf("P201: Word(0) of no bytes is %d, %v", w, code)
	}
	twin := a.Twin()
	if a.Cost() != 0 || twin.Size() != 0 || twin.Cost() != 0 {
		t.Errorf("P201: no bytes cost %d, their twin has %d and cost %d", a.Cost(), twin.Size(), twin.Cost())
	}
}

func TestCostCountsWhatWasDone(t *testing.T) {
	a := made(t, 10)
	for _, step := range []struct {
		name string
		call func()
		cost int
	}{
		{"Size", func() { a.Size() }, 0},
		{"Write", func() { a.Write(2, []byte("abc"), nil, []byte("de")) }, 5},
		{"a refused Write", func() { a.Write(9, []byte("x"), []byte("y")) }, 5},
		{"a refused PutWord", func() { a.PutWord(8, 1) }, 5},
		{"Read", func() { a.Read(0, 10) }, 15},
		{"a refused Read", func() { a.Read(0, 11) }, 15},
		{"a Read of a negative length", func() { a.Read(0, -1) }, 15},
		{"Fill", func() { a.Fill(7, 3, 1) }, 18},
		{"a refused Fill", func() { a.Fill(7, 4, 1) }, 18},
		{"a Fill of a negative length", func() { a.Fill(7, -4, 1) }, 18},
		{"Word", func() { a.Word(4) }, 22},
		{"a crooked Word", func() { a.Word(5) }, 22},
		{"a refused Word", func() { a.Word(8) }, 22},
		{"PutWord", func() { a.PutWord(0, 1) }, 26},
		{"a crooked PutWord", func() { a.PutWord(2, 1) }, 26},
		{"a Read of nothing", func() { a.Read(10, 0) }, 26},
		{"Twin", func() { a.Twin() }, 26},
		{"Cost", func() { a.Cost() }, 26},
		{"the same Read again", func() { a.Read(0, 10) }, 36},
	} {
		step.call()
		if a.Cost() != step.cost {
			t.Fatalf("P201: the cost after %s is %d, not %d", step.name, a.Cost(), step.cost)
		}
	}
	if a.Size() != 10 {
		t.Errorf("P201: the size became %d", a.Size())
	}
}

func TestTwinsGoTheirOwnWays(t *testing.T) {
	a := counted(t, 8)
	b := a.Twin()
	if b == a || b.Size() != 8 {
		t.Fatalf("P201: the twin has %d bytes, or is the arena itself", b.Size())
	}
	expect(t, b, row(8), 8)

	a.Write(0, []byte("abc"))
	a.PutWord(4, 0)
	expect(t, b, row(8), 8)
	expect(t, a, []byte{'a', 'b', 'c', 4, 0, 0, 0, 0}, 15)

	b.Fill(2, 3, 200)
	b.Word(0)
	expect(t, a, []byte{'a', 'b', 'c', 4, 0, 0, 0, 0}, 15)
	expect(t, b, []byte{1, 2, 200, 200, 200, 6, 7, 8}, 15)

	c := b.Twin()
	b.Fill(0, 8, 0)
	expect(t, c, []byte{1, 2, 200, 200, 200, 6, 7, 8}, 15)
	expect(t, b, make([]byte, 8), 23)
}
