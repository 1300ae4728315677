package crc

import (
	"fmt"
	"hash/crc32"
	"math"
	"math/rand"
	"strings"
	"testing"
)

// mixed is a xor b, bit by bit.
func mixed(a, b uint32) uint32 {
	var out uint32
	for bit := uint32(1); bit != 0; bit *= 2 {
		if (a/bit)%2 != (b/bit)%2 {
			out += bit
		}
	}
	return out
}

// stepped is what the chapter says of Step, by quotients and rests.
func stepped(t [256]uint32, n uint32, b byte) uint32 {
	return mixed(n/256, t[mixed(n%256, uint32(b))])
}

// summed is what the chapter says of Sum.
func summed(t [256]uint32, s string) int {
	n := uint32(math.MaxUint32)
	for _, b := range []byte(s) {
		n = stepped(t, n, b)
	}
	return math.MaxUint32 - int(n)
}

// divided is the sum of CRC-32 without any table: the rest of a division, bit by bit.
func divided(s string) int {
	n := uint32(math.MaxUint32)
	for _, b := range []byte(s) {
		for bit := range 8 {
			low := n%2 != uint32(b>>bit)%2
			n /= 2
			if low {
				n = mixed(n, 0xedb88320)
			}
		}
	}
	return math.MaxUint32 - int(n)
}

type named struct {
	name  string
	table [256]uint32
}

// filled is a table that has at i what by says.
func filled(by func(i int) uint32) [256]uint32 {
	var t [256]uint32
	for i := range t {
		t[i] = by(i)
	}
	return t
}

// tables are that of CRC-32 and others, of which no promise speaks but that they are taken as they are.
func tables() []named {
	random := rand.New(rand.NewSource(3))
	return []named{
		{"Table()", Table()},
		{"zeros", [256]uint32{}},
		{"ones", filled(func(int) uint32 { return math.MaxUint32 })},
		{"places", filled(func(i int) uint32 { return uint32(i) })},
		{"high places", filled(func(i int) uint32 { return uint32(i) << 24 })},
		{"backwards", filled(func(i int) uint32 { return uint32(255 - i) })},
		{"another polynomial", [256]uint32(*crc32.MakeTable(crc32.Castagnoli))},
		{"random", filled(func(int) uint32 { return random.Uint32() })},
	}
}

// starts are the n's ends, each of its bits, and some others.
func starts() []uint32 {
	list := []uint32{0, 1, 2, 254, 255, 256, 257, 0x12345678, 0x80000000, 0xfffffeff, math.MaxUint32 - 255, math.MaxUint32 - 1, math.MaxUint32}
	for bit := range 32 {
		list = append(list, 1<<bit, ^uint32(1<<bit))
	}
	random := rand.New(rand.NewSource(4))
	for range 50 {
		list = append(list, random.Uint32())
	}
	return list
}

func text(random *rand.Rand, size int) string {
	out := make([]byte, size)
	random.Read(out)
	return string(out)
}

// texts are the empty one, each single byte, such as no rune is made of, and some others.
func texts() []string {
	list := []string{"", "123456789", "stevedore", "\x00\x00", "\x00\x00\x00\x00", "\xff\xff", "\xff\xff\xff\xff", "\xff\xff\xff\xff\x00", "é", "\xc3", "\xed\xa0\x80", "a\xff\xfeb\x80", strings.Repeat("\x00", 300), strings.Repeat("\xff", 300)}
	for b := range 256 {
		list = append(list, string([]byte{byte(b)}))
	}
	random := rand.New(rand.NewSource(5))
	for range 100 {
		list = append(list, text(random, random.Intn(300)))
	}
	return append(list, text(random, 70000))
}

// P3.1

func TestTableIsAsSaid(t *testing.T) {
	got := Table()
	for i := range got {
		want := uint32(i)
		for range 8 {
			odd := want%2 == 1
			want /= 2
			if odd {
				want = mixed(want, 0xedb88320)
			}
		}
		if got[i] != want {
			t.Errorf("Table()[%d] = %08x, not %08x", i, got[i], want)
		}
	}
	if got != [256]uint32(*crc32.IEEETable) {
		t.Error("Table() is not that of CRC-32")
	}
}

func TestTableAtSomePlaces(t *testing.T) {
	got := Table()
	for i, want := range map[int]uint32{0: 0, 1: 0x77073096, 2: 0xee0e612c, 128: 0xedb88320, 255: 0x2d02ef8d} {
		if got[i] != want {
			t.Errorf("Table()[%d] = %08x, not %08x", i, got[i], want)
		}
	}
}

func TestTableIsMadeAnew(t *testing.T) {
	first := Table()
	kept := first
	for i := range first {
		first[i] = 7
	}
	if Table() != kept {
		t.Error("a change of one table is seen in the next one")
	}
}

func TestStepExamples(t *testing.T) {
	x := Table()
	numbered := filled(func(i int) uint32 { return uint32(i) + 1000 })
	cases := []struct {
		what      string
		got, want uint32
	}{
		{"0 and 1", Step(x, 0, 1), 0x77073096},
		{"0 and 0", Step(x, 0, 0), 0},
		{"255 and 255", Step(x, 255, 255), 0},
		{"256 and 0", Step(x, 256, 0), 1},
		{"the place by n", Step(numbered, 5, 0), 1005},
		{"the place by b", Step(numbered, 0, 5), 1005},
		{"the place by both", Step(numbered, 6, 3), 1005},
		{"the greatest n by zeros", Step([256]uint32{}, math.MaxUint32, 9), 0x00ffffff},
	}
	for _, c := range cases {
		if c.got != c.want {
			t.Errorf("Step of %s = %08x, not %08x", c.what, c.got, c.want)
		}
	}
}

func TestStepOfAnyTable(t *testing.T) {
	for _, x := range tables() {
		for _, n := range starts() {
			for b := range 256 {
				got, want := Step(x.table, n, byte(b)), stepped(x.table, n, byte(b))
				if got != want {
					t.Fatalf("%s: Step(%08x, %d) = %08x, not %08x", x.name, n, b, got, want)
				}
			}
		}
	}
}

func TestSumExamples(t *testing.T) {
	x := Table()
	for s, want := range map[string]int{
		"123456789":        0xcbf43926,
		"":                 0,
		"a":                0xe8b7be43,
		"\x00":             0xd202ef8d,
		"\xff":             0xff000000,
		"\xff\xff\xff\xff": 0xffffffff,
		"The quick brown fox jumps over the lazy dog": 0x414fa339,
	} {
		if got := Sum(x, s); got != want {
			t.Errorf("Sum of %q = %08x, not %08x", s, got, want)
		}
	}
}

func TestSumOfCrc32(t *testing.T) {
	x := Table()
	for _, s := range texts() {
		got := Sum(x, s)
		if want := int(crc32.ChecksumIEEE([]byte(s))); got != want {
			t.Fatalf("Sum of %.20q = %08x, not %08x", s, got, want)
		}
		if want := divided(s); got != want {
			t.Fatalf("Sum of %.20q = %08x, and divided %08x", s, got, want)
		}
	}
}

func TestSumOfAnyTable(t *testing.T) {
	for _, x := range tables() {
		for _, s := range texts() {
			got, want := Sum(x.table, s), summed(x.table, s)
			if got != want {
				t.Fatalf("%s: Sum of %.20q = %08x, not %08x", x.name, s, got, want)
			}
			if got < 0 || got > math.MaxUint32 {
				t.Fatalf("%s: Sum of %.20q = %d, not one of 32 bits", x.name, s, got)
			}
		}
	}
}

func TestSumIsStepByStep(t *testing.T) {
	for _, x := range tables() {
		for _, s := range texts() {
			if len(s) > 1000 {
				continue
			}
			n := uint32(math.MaxUint32)
			for i := range len(s) {
				n = Step(x.table, n, s[i])
			}
			if got := Sum(x.table, s); got != int(^n) {
				t.Fatalf("%s: Sum of %.20q = %08x, step by step %08x", x.name, s, got, ^n)
			}
		}
	}
}

func TestSumOfNothingIsZeroByAnyTable(t *testing.T) {
	for _, x := range tables() {
		if got := Sum(x.table, ""); got != 0 {
			t.Errorf("%s: Sum of nothing = %08x", x.name, got)
		}
	}
}

// Each entry of a table that isn't CRC-32's counts: none is taken from elsewhere.
func TestEachEntryIsRead(t *testing.T) {
	for i := range 256 {
		x := Table()
		s := string([]byte{^byte(i)})
		before := Sum(x, s)
		x[i] ^= 0x10
		if got := Sum(x, s); got != before^0x10 {
			t.Errorf("another entry %d: Sum = %08x, before %08x", i, got, before)
		}
		if got, want := Step(x, 0, byte(i)), x[i]; got != want {
			t.Errorf("another entry %d: Step = %08x, not %08x", i, got, want)
		}
	}
}

func TestTablesAreNotChanged(t *testing.T) {
	for _, x := range tables() {
		kept := x.table
		Step(x.table, 77, 7)
		Sum(x.table, "some text")
		if x.table != kept {
			t.Errorf("%s was changed", x.name)
		}
	}
}

// P3.2

// changed is s with its bytes from at on mixed with difference's.
func changed(s string, at int, difference []byte) string {
	out := []byte(s)
	for i, d := range difference {
		out[at+i] ^= d
	}
	return string(out)
}

// told says whether all differences of a window are: the sums of its single bits' differences hang on one another nowhere.
func told(columns []uint32) bool {
	var byHighest [32]uint32
	for _, c := range columns {
		for bit := 31; bit >= 0 && c != 0; bit-- {
			if c>>bit == 0 {
				continue
			}
			if byHighest[bit] == 0 {
				byHighest[bit] = c
				break
			}
			c ^= byHighest[bit]
		}
		if c == 0 {
			return false
		}
	}
	return true
}

// A difference of sums hangs on the texts' difference alone, and two of them add up: so single bits speak for all differences.
func TestDifferencesAddUp(t *testing.T) {
	x := Table()
	random := rand.New(rand.NewSource(6))
	for range 2000 {
		size := 4 + random.Intn(40)
		s, other := text(random, size), text(random, size)
		at := random.Intn(size - 3)
		a, b := []byte(text(random, 4)), []byte(text(random, 4))
		byA := Sum(x, s) ^ Sum(x, changed(s, at, a))
		byB := Sum(x, s) ^ Sum(x, changed(s, at, b))
		both := Sum(x, other) ^ Sum(x, changed(changed(other, at, a), at, b))
		if byA^byB != both {
			t.Fatalf("%q: %x and %x at %d don't add up", s, a, b, at)
		}
	}
}

func TestAllFourByteDifferencesAreTold(t *testing.T) {
	x := Table()
	random := rand.New(rand.NewSource(7))
	for _, size := range []int{1, 2, 3, 4, 5, 8, 9, 100, 1000} {
		s := text(random, size)
		wide := min(4, size)
		for at := range size - wide + 1 {
			var columns []uint32
			for bit := range 8 * wide {
				difference := make([]byte, wide)
				difference[bit/8] = 1 << (bit % 8)
				columns = append(columns, uint32(Sum(x, s)^Sum(x, changed(s, at, difference))))
			}
			if !told(columns) {
				t.Fatalf("some difference at %d of %d bytes isn't told", at, size)
			}
		}
	}
}

func TestOneAndTwoOtherBytesAreTold(t *testing.T) {
	x := Table()
	for _, s := range []string{"ab", "\x00\x00", "\xff\xff", "some text", strings.Repeat("\x00", 40)} {
		for _, at := range []int{0, len(s)/2 - 1, len(s) - 2} {
			seen := map[int]int{}
			for d := range 1 << 16 {
				sum := Sum(x, changed(s, at, []byte{byte(d), byte(d >> 8)}))
				if other, there := seen[sum]; there {
					t.Fatalf("%q at %d: %04x and %04x have one sum", s, at, other, d)
				}
				seen[sum] = d
			}
		}
	}
}

func TestThreeAndFourOtherBytesAreTold(t *testing.T) {
	x := Table()
	random := rand.New(rand.NewSource(8))
	for range 20000 {
		s := text(random, 4+random.Intn(60))
		wide := 3 + random.Intn(2)
		at := random.Intn(len(s) - wide + 1)
		difference := []byte(text(random, wide))
		other := changed(s, at, difference)
		if s != other && Sum(x, s) == Sum(x, other) {
			t.Fatalf("%q and %q have one sum", s, other)
		}
	}
}

// P1

func TestNothingPanics(t *testing.T) {
	defer func() {
		if why := recover(); why != nil {
			t.Errorf("a call panics: %s", fmt.Sprint(why))
		}
	}()
	Table()
	for _, x := range tables() {
		for _, n := range starts() {
			for b := range 256 {
				Step(x.table, n, byte(b))
			}
		}
		for _, s := range texts() {
			Sum(x.table, s)
		}
	}
	Sum(Table(), strings.Repeat("\xff", 1<<20))
}
