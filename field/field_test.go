package field

import (
	"math"
	"math/big"
	"math/rand"
	"strings"
	"testing"
)

// widths are the fields' bytes, with what writes and what reads them.
var widths = []struct {
	name  string
	size  int
	write func(int) string
	read  func(*Cursor) int
}{
	{"U16", 2, U16, (*Cursor).U16},
	{"U32", 4, U32, (*Cursor).U32},
	{"U64", 8, U64, (*Cursor).U64},
}

// numbers are ones whose bytes all differ, and those beside each width's ends.
func numbers() []int {
	list := []int{0, 1, 2, 127, 128, 255, 256, 257, 513, 0x1234, 0x12345678, 0x123456789abcdef0, math.MinInt, math.MinInt + 1, math.MaxInt, math.MaxInt - 1}
	for _, shift := range []int{7, 8, 15, 16, 24, 31, 32, 40, 48, 56, 62} {
		for _, beside := range []int{-1, 0, 1} {
			list = append(list, 1<<shift+beside, -(1<<shift + beside))
		}
	}
	random := rand.New(rand.NewSource(2))
	for range 200 {
		list = append(list, int(random.Uint64())>>random.Intn(64))
	}
	return list
}

// rest is n without what stands above size bytes, as the chapter says it: of one below 0 as if it stood behind 2^64.
func rest(n, size int) *big.Int {
	v := big.NewInt(int64(n))
	if n < 0 {
		v.Add(v, new(big.Int).Exp(big.NewInt(2), big.NewInt(64), nil))
	}
	return v.Mod(v, new(big.Int).Exp(big.NewInt(2), big.NewInt(int64(8*size)), nil))
}

// spelled is v's bytes, the lowest first, by division.
func spelled(v *big.Int, size int) string {
	v = new(big.Int).Set(v)
	var out []byte
	for range size {
		var digit big.Int
		v.DivMod(v, big.NewInt(256), &digit)
		out = append(out, byte(digit.Int64()))
	}
	return string(out)
}

// valued is the number that s's bytes are, the lowest first, by multiplication.
func valued(s string) *big.Int {
	v := big.NewInt(0)
	for i := len(s) - 1; i >= 0; i-- {
		v.Mul(v, big.NewInt(256))
		v.Add(v, big.NewInt(int64(s[i])))
	}
	return v
}

// P2.1

func TestWritesExamples(t *testing.T) {
	cases := []struct {
		what, got, want string
	}{
		{"U16(513)", U16(513), "\x01\x02"},
		{"U32(513)", U32(513), "\x01\x02\x00\x00"},
		{"U64(513)", U64(513), "\x01\x02\x00\x00\x00\x00\x00\x00"},
		{"U16(0)", U16(0), "\x00\x00"},
		{"U32(0)", U32(0), "\x00\x00\x00\x00"},
		{"U64(0)", U64(0), "\x00\x00\x00\x00\x00\x00\x00\x00"},
		{"U16(65536)", U16(65536), "\x00\x00"},
		{"U16(65535)", U16(65535), "\xff\xff"},
		{"U32(2^32)", U32(1 << 32), "\x00\x00\x00\x00"},
		{"U32(2^32-1)", U32(1<<32 - 1), "\xff\xff\xff\xff"},
		{"U16(-1)", U16(-1), "\xff\xff"},
		{"U32(-1)", U32(-1), "\xff\xff\xff\xff"},
		{"U64(-1)", U64(-1), "\xff\xff\xff\xff\xff\xff\xff\xff"},
		{"U16(-2)", U16(-2), "\xfe\xff"},
		{"U64(-256)", U64(-256), "\x00\xff\xff\xff\xff\xff\xff\xff"},
		{"U64(least)", U64(math.MinInt), "\x00\x00\x00\x00\x00\x00\x00\x80"},
		{"U64(most)", U64(math.MaxInt), "\xff\xff\xff\xff\xff\xff\xff\x7f"},
		{"U64 of eight bytes", U64(0x0102030405060708), "\x08\x07\x06\x05\x04\x03\x02\x01"},
	}
	for _, c := range cases {
		if c.got != c.want {
			t.Errorf("%s: %q, not %q", c.what, c.got, c.want)
		}
	}
}

func TestWritesLowestBits(t *testing.T) {
	for _, w := range widths {
		for _, n := range numbers() {
			if got, want := w.write(n), spelled(rest(n, w.size), w.size); got != want {
				t.Errorf("%s(%d): %q, not %q", w.name, n, got, want)
			}
		}
	}
}

// P2.2

// want is what a cursor should be behind a call.
func (c Cursor) want(t *testing.T, what string, at int, bad bool) {
	t.Helper()
	if c.At != at || c.Bad != bad {
		t.Errorf("%s: At %d and Bad %v, not %d and %v", what, c.At, c.Bad, at, bad)
	}
}

func TestTextGoesOn(t *testing.T) {
	c := &Cursor{S: "abc\x00\xffde"}
	for _, step := range []struct {
		n    int
		text string
		at   int
	}{{0, "", 0}, {1, "a", 1}, {2, "bc", 3}, {0, "", 3}, {2, "\x00\xff", 5}, {2, "de", 7}, {0, "", 7}, {0, "", 7}} {
		if got := c.Text(step.n); got != step.text {
			t.Errorf("Text(%d): %q, not %q", step.n, got, step.text)
		}
		c.want(t, "Text", step.at, false)
	}
	if c.S != "abc\x00\xffde" {
		t.Errorf("S was changed: %q", c.S)
	}
}

// ends are the edges of an At and of an n, at a text of five bytes.
var ends = []int{math.MinInt, math.MinInt + 1, -6, -5, -1, 0, 1, 2, 3, 4, 5, 6, 7, math.MaxInt - 5, math.MaxInt - 1, math.MaxInt}

func TestTextAtAllEnds(t *testing.T) {
	const s = "abcde"
	for _, at := range ends {
		for _, n := range ends {
			for _, bad := range []bool{false, true} {
				c := &Cursor{S: s, At: at, Bad: bad}
				got := c.Text(n)
				good := !bad && at >= 0 && at <= 5 && n >= 0 && n <= 5 && at+n <= 5
				if c.Bad == good {
					t.Errorf("Text(%d) at %d, Bad %v: then Bad is %v", n, at, bad, c.Bad)
				}
				if good && (got != s[at:][:n] || c.At != at+n) {
					t.Errorf("Text(%d) at %d: %q, then At %d", n, at, got, c.At)
				}
				if !good && got != "" {
					t.Errorf("Text(%d) at %d, Bad %v: %q", n, at, bad, got)
				}
			}
		}
	}
}

func TestTextOfNothing(t *testing.T) {
	c := &Cursor{}
	if got := c.Text(0); got != "" || c.Bad || !c.Done() {
		t.Errorf("Text(0) of nothing: %q, Bad %v", got, c.Bad)
	}
	if got := c.Text(1); got != "" || !c.Bad {
		t.Errorf("Text(1) of nothing: %q, Bad %v", got, c.Bad)
	}
}

func TestReadsExamples(t *testing.T) {
	c := &Cursor{S: "x\x01\x02\x05\x00\x00\x80\x08\x07\x06\x05\x04\x03\x02\x01\xff\xff\xff\xff\xff\xffab", At: 1}
	if got := c.U16(); got != 513 {
		t.Errorf("U16: %d", got)
	}
	c.want(t, "U16", 3, false)
	if got := c.U32(); got != 0x80000005 {
		t.Errorf("U32: %x", got)
	}
	c.want(t, "U32", 7, false)
	if got := c.U64(); got != 0x0102030405060708 {
		t.Errorf("U64: %x", got)
	}
	c.want(t, "U64", 15, false)
	if got := c.U16(); got != 65535 {
		t.Errorf("the greatest U16: %d", got)
	}
	if got := c.U32(); got != 1<<32-1 {
		t.Errorf("the greatest U32: %d", got)
	}
	if got := c.Text(2); got != "ab" || !c.Done() {
		t.Errorf("Text: %q, Done %v", got, c.Done())
	}
}

func TestReadsNumbers(t *testing.T) {
	random := rand.New(rand.NewSource(3))
	top := new(big.Int).Exp(big.NewInt(2), big.NewInt(63), nil)
	for _, w := range widths {
		for round := range 500 {
			s := make([]byte, w.size)
			random.Read(s)
			// Some have their high bytes 0 or all bits, where the ends lie.
			for i := round % (w.size + 1); i < w.size; i++ {
				s[i] = []byte{0, 0xff, 0x7f, 0x80}[round/9%4]
			}
			c := &Cursor{S: "head" + string(s) + "tail", At: 4}
			got, want := w.read(c), valued(string(s))
			if want.Cmp(top) >= 0 {
				if got != 0 || !c.Bad {
					t.Errorf("%s of %q: %d, Bad %v", w.name, s, got, c.Bad)
				}
				continue
			}
			if c.Bad || big.NewInt(int64(got)).Cmp(want) != 0 {
				t.Errorf("%s of %q: %d, Bad %v, not %v", w.name, s, got, c.Bad, want)
			}
			c.want(t, w.name, 4+w.size, false)
		}
	}
}

func TestReadsAtTheTop(t *testing.T) {
	for _, n := range []int{-1, -2, math.MinInt, math.MinInt + 1} {
		c := &Cursor{S: U64(n) + "\x01\x00\x02\x00\x00\x00"}
		if got := c.U64(); got != 0 || !c.Bad {
			t.Errorf("U64 of %d: %d, Bad %v", uint64(n), got, c.Bad)
		}
		if a, b, s := c.U16(), c.U32(), c.Text(1); a != 0 || b != 0 || s != "" || !c.Bad {
			t.Errorf("behind a number that is too great: %d, %d, %q, Bad %v", a, b, s, c.Bad)
		}
	}
	c := &Cursor{S: U64(math.MaxInt)}
	if got := c.U64(); got != math.MaxInt || c.Bad || !c.Done() {
		t.Errorf("2^63 - 1: %d, Bad %v", got, c.Bad)
	}
}

func TestReadsTooFew(t *testing.T) {
	for _, w := range widths {
		for left := range w.size {
			c := &Cursor{S: strings.Repeat("\x01", 3+left), At: 3}
			if got := w.read(c); got != 0 || !c.Bad || c.Done() {
				t.Errorf("%s of %d bytes: %d, Bad %v", w.name, left, got, c.Bad)
			}
		}
	}
}

func TestReadsAtAllEnds(t *testing.T) {
	s := strings.Repeat("\x01", 8)
	for _, w := range widths {
		for _, at := range append([]int{8, 9}, ends...) {
			for _, bad := range []bool{false, true} {
				c := &Cursor{S: s, At: at, Bad: bad}
				got := w.read(c)
				good := !bad && at >= 0 && at <= 8-w.size
				if c.Bad == good || good != (got != 0) {
					t.Errorf("%s at %d, Bad %v: %d, then Bad %v", w.name, at, bad, got, c.Bad)
				}
			}
		}
	}
}

func TestBadStays(t *testing.T) {
	c := &Cursor{S: "\x01\x01\x01\x01\x01\x01\x01\x01\x01"}
	c.Text(10)
	if !c.Bad {
		t.Fatal("ten bytes of nine")
	}
	for _, w := range widths {
		if got := w.read(c); got != 0 || !c.Bad {
			t.Errorf("%s behind Bad: %d, Bad %v", w.name, got, c.Bad)
		}
	}
	for _, n := range []int{0, 1, 9} {
		if got := c.Text(n); got != "" || !c.Bad {
			t.Errorf("Text(%d) behind Bad: %q, Bad %v", n, got, c.Bad)
		}
	}
}

func TestDone(t *testing.T) {
	for _, c := range []struct {
		cursor Cursor
		want   bool
	}{
		{Cursor{}, true},
		{Cursor{Bad: true}, false},
		{Cursor{At: 1}, false},
		{Cursor{At: -1}, false},
		{Cursor{S: "ab"}, false},
		{Cursor{S: "ab", At: 1}, false},
		{Cursor{S: "ab", At: 2}, true},
		{Cursor{S: "ab", At: 2, Bad: true}, false},
		{Cursor{S: "ab", At: 3}, false},
		{Cursor{S: "ab", At: -2}, false},
		{Cursor{S: "ab", At: math.MaxInt}, false},
		{Cursor{S: "ab", At: math.MinInt}, false},
	} {
		asked := c.cursor
		if got := asked.Done(); got != c.want {
			t.Errorf("Done of %+v: %v", c.cursor, got)
		}
		if asked != c.cursor {
			t.Errorf("Done changed %+v to %+v", c.cursor, asked)
		}
	}
}

// P2.3

func TestThereAndBack(t *testing.T) {
	random := rand.New(rand.NewSource(4))
	for range 300 {
		var s strings.Builder
		var order, values []int
		for range random.Intn(12) {
			which := random.Intn(len(widths))
			// At most 63 bits: what is 2^63 or more goes there, but not back.
			v := int(random.Int63() >> random.Intn(63))
			if size := widths[which].size; size < 8 {
				v &= 1<<(8*size) - 1
			}
			order, values = append(order, which), append(values, v)
			s.WriteString(widths[which].write(v))
		}
		c := &Cursor{S: s.String()}
		for i, which := range order {
			if c.Done() {
				t.Errorf("Done ahead of number %d of %d", i, len(order))
			}
			if got := widths[which].read(c); got != values[i] {
				t.Errorf("%s: %d came back as %d", widths[which].name, values[i], got)
			}
		}
		if !c.Done() {
			t.Errorf("not Done behind %d numbers", len(order))
		}
	}
}

// P1

func TestNothingPanics(t *testing.T) {
	for _, at := range ends {
		for _, n := range ends {
			for _, s := range []string{"", "a", "\xff\xff\xff\xff\xff\xff\xff\xff\xff"} {
				c := &Cursor{S: s, At: at}
				c.Text(n)
				c.Done()
				for _, w := range widths {
					w.write(n)
					w.read(&Cursor{S: s, At: at})
					w.read(c)
				}
				c.Text(n)
				c.Done()
			}
		}
	}
}
