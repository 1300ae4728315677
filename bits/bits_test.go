package bits

import (
	"math"
	"math/rand"
	"strings"
	"testing"
)

// counts are the edges of an n: below 1, up to 30, above, and the type's ends.
var counts = []int{math.MinInt, -1, 0, 1, 7, 8, 9, 29, 30, 31, 32, 63, 64, 65, math.MaxInt}

// values are numbers whose bits differ at their ends.
var values = []int{math.MinInt, -2, -1, 0, 1, 2, 5, 0x155, 0x2aaaaaaa, 1 << 29, 1 << 30, 1<<30 - 1, 1 << 31, math.MaxInt}

// clip is the document's words for an n: above 30 it is 30, below 1 none.
func clip(n int) int {
	switch {
	case n < 1:
		return 0
	case n > 30:
		return 30
	}
	return n
}

// trace is what a writer should have: the bits one by one.
type trace []int

func (l trace) bytes() string {
	out := make([]byte, (len(l)+7)/8)
	for i, b := range l {
		if b == 1 {
			out[i/8] += []byte{1, 2, 4, 8, 16, 32, 64, 128}[i%8]
		}
	}
	return string(out)
}

// low is the bits of v, the lowest one first.
func low(v, n int) trace {
	var l trace
	u := uint64(v)
	for range clip(n) {
		l = append(l, int(u%2))
		u /= 2
	}
	return l
}

func (l trace) turned() trace {
	var m trace
	for i := len(l) - 1; i >= 0; i-- {
		m = append(m, l[i])
	}
	return m
}

func (l trace) aligned() trace {
	for len(l)%8 != 0 {
		l = append(l, 0)
	}
	return l
}

// spread is the bits of s's bytes.
func spread(s string) trace {
	var l trace
	for i := range len(s) {
		l = append(l, low(int(s[i]), 8)...)
	}
	return l
}

func (l trace) number() int {
	v := 0
	for _, b := range l.turned() {
		v = 2*v + b
	}
	return v
}

func checkWriter(t *testing.T, what string, w *Writer, want trace) {
	t.Helper()
	if w.Bytes() != want.bytes() || string(w.Out) != want.bytes() || w.N != len(want) {
		t.Errorf("%s: %x (Out %x), %d bits; want %x, %d bits", what, w.Bytes(), w.Out, w.N, want.bytes(), len(want))
	}
}

// ahead is a writer with n bits, turn by turn 1 and 0, and what it has.
func ahead(n int) (*Writer, trace) {
	w, l := &Writer{}, trace(nil)
	for i := range n {
		w.Bit(i + 1)
		l = append(l, (i+1)%2)
	}
	return w, l
}

// P1.1

func TestWriterExample(t *testing.T) {
	w := &Writer{}
	w.Put(5, 3)
	w.Turn(1, 2)
	if w.Bytes() != "\x15" || w.N != 5 {
		t.Errorf("%x, %d bits", w.Bytes(), w.N)
	}
}

func TestNewWriter(t *testing.T) {
	w := &Writer{}
	checkWriter(t, "new", w, nil)
	w.Align()
	checkWriter(t, "aligned", w, nil)
	w.Text("")
	checkWriter(t, "no text", w, nil)
}

func TestWriterBit(t *testing.T) {
	w, l := &Writer{}, trace(nil)
	for round := range 3 {
		for _, v := range values {
			w.Bit(v)
			l = append(l, int(uint64(v)%2))
			checkWriter(t, "Bit", w, l)
		}
		w.Bit(round)
		l = append(l, round%2)
	}
}

func TestWriterBitFillsFromTheLowest(t *testing.T) {
	w := &Writer{}
	for i, want := range []string{"\x01", "\x01", "\x05", "\x05", "\x15", "\x15", "\x15", "\x95", "\x95\x01"} {
		w.Bit([]int{1, 0, 1, 0, 1, 0, 0, 1, 1}[i])
		if w.Bytes() != want || w.N != i+1 {
			t.Errorf("behind %d bits: %x, N %d", i+1, w.Bytes(), w.N)
		}
	}
}

func TestWriterPutAndTurn(t *testing.T) {
	for start := range 9 {
		for _, v := range values {
			for _, n := range counts {
				w, l := ahead(start)
				w.Put(v, n)
				checkWriter(t, "Put", w, append(l, low(v, n)...))
				w, l = ahead(start)
				w.Turn(v, n)
				checkWriter(t, "Turn", w, append(l, low(v, n).turned()...))
			}
		}
	}
}

func TestWriterAlign(t *testing.T) {
	for start := range 18 {
		w, l := ahead(start)
		w.Align()
		checkWriter(t, "Align", w, l.aligned())
		w.Align()
		checkWriter(t, "Align twice", w, l.aligned())
		w.Bit(1)
		checkWriter(t, "Align, Bit", w, append(l.aligned(), 1))
	}
}

func TestWriterText(t *testing.T) {
	all := ""
	for b := range 256 {
		all += string([]byte{byte(b)})
	}
	for start := range 10 {
		for _, s := range []string{"", "a", "\x00", "\xff\x80", "é\n", all} {
			w, l := ahead(start)
			w.Text(s)
			l = append(l.aligned(), spread(s)...)
			checkWriter(t, "Text", w, l)
			w.Put(5, 3)
			checkWriter(t, "Text, Put", w, append(l, 1, 0, 1))
		}
	}
}

func TestBytesStayAsTheyWere(t *testing.T) {
	w := &Writer{}
	w.Put(1, 9)
	before := w.Bytes()
	w.Put(-1, 30)
	if before != "\x01\x00" {
		t.Errorf("what was told has changed: %x", before)
	}
}

// P1.2

// texts are what readers are given.
var texts = []string{"", "\x00", "\x01", "\x80", "\xff", "\x15a\x01", "abcdefghijklmnop", "\x00\xff\x00\xff\x0f\xf0"}

func TestReaderBit(t *testing.T) {
	for _, s := range texts {
		l := spread(s)
		for at := 0; at <= len(l); at++ {
			r := &Reader{S: s, At: at}
			for i := at; i < len(l); i++ {
				if b := r.Bit(); b != l[i] || r.At != i+1 || r.Bad {
					t.Fatalf("%x, bit %d: %d, then At %d, Bad %v", s, i, b, r.At, r.Bad)
				}
			}
			for range 2 {
				if b := r.Bit(); b != 0 || !r.Bad {
					t.Fatalf("%x, behind the end: %d, Bad %v", s, b, r.Bad)
				}
			}
		}
	}
}

func TestReaderBits(t *testing.T) {
	for _, s := range texts {
		l := spread(s)
		for at := 0; at <= len(l); at++ {
			for _, n := range counts {
				r := &Reader{S: s, At: at}
				v, m := r.Bits(n), clip(n)
				if m > len(l)-at {
					if v != 0 || !r.Bad {
						t.Fatalf("%x from %d, Bits(%d) beyond: %d, Bad %v", s, at, n, v, r.Bad)
					}
					continue
				}
				if v != l[at:at+m].number() || r.At != at+m || r.Bad {
					t.Fatalf("%x from %d, Bits(%d): %d, At %d, Bad %v", s, at, n, v, r.At, r.Bad)
				}
			}
		}
	}
}

func TestReaderAlignAndUsed(t *testing.T) {
	for _, s := range texts {
		for at := 0; at <= 8*len(s); at++ {
			r := &Reader{S: s, At: at}
			want := len(trace(make([]int, at)).aligned())
			if r.Used() != want/8 || r.At != at || r.Bad {
				t.Fatalf("%x at %d: Used %d, then At %d, Bad %v", s, at, r.Used(), r.At, r.Bad)
			}
			r.Align()
			if r.At != want || r.Bad || r.Used() != want/8 {
				t.Fatalf("%x at %d: Align: At %d, Bad %v, Used %d", s, at, r.At, r.Bad, r.Used())
			}
		}
	}
}

func TestReaderText(t *testing.T) {
	for _, s := range texts {
		for at := 0; at <= 8*len(s); at++ {
			from := (at + 7) / 8
			sizes := []int{math.MinInt, -1, math.MaxInt, math.MaxInt / 8, math.MaxInt/8 + 1, 1 << 61}
			for n := range len(s) + 2 {
				sizes = append(sizes, n)
			}
			for _, n := range sizes {
				r := &Reader{S: s, At: at}
				got := r.Text(n)
				if n < 0 || n > len(s)-from {
					if got != "" || !r.Bad {
						t.Fatalf("%x at %d, Text(%d): %x, Bad %v", s, at, n, got, r.Bad)
					}
					continue
				}
				if got != s[from:from+n] || r.At != 8*(from+n) || r.Bad || r.Used() != from+n {
					t.Fatalf("%x at %d, Text(%d): %x, At %d, Bad %v", s, at, n, got, r.At, r.Bad)
				}
			}
		}
	}
}

func TestReaderThatIsBad(t *testing.T) {
	for _, s := range texts {
		for at := 0; at <= 8*len(s); at++ {
			for _, n := range append([]int{2, 3}, counts...) {
				r := &Reader{S: s, At: at, Bad: true}
				if b := r.Bit(); b != 0 || !r.Bad {
					t.Fatalf("Bit: %d, Bad %v", b, r.Bad)
				}
				r = &Reader{S: s, At: at, Bad: true}
				if v := r.Bits(n); v != 0 || !r.Bad {
					t.Fatalf("Bits(%d): %d, Bad %v", n, v, r.Bad)
				}
				r = &Reader{S: s, At: at, Bad: true}
				if got := r.Text(n); got != "" || !r.Bad {
					t.Fatalf("Text(%d): %x, Bad %v", n, got, r.Bad)
				}
				r = &Reader{S: s, At: at, Bad: true}
				r.Align()
				if !r.Bad {
					t.Fatal("Align has cleared Bad")
				}
			}
		}
	}
}

func TestReaderStaysBad(t *testing.T) {
	wrong := map[string]func(r *Reader){
		"Bits too many": func(r *Reader) { r.Bits(30) },
		"Text too many": func(r *Reader) { r.Text(4) },
		"Text below 0":  func(r *Reader) { r.Text(-1) },
	}
	for what, f := range wrong {
		r := &Reader{S: "abc"}
		f(r)
		if !r.Bad {
			t.Errorf("%s: not Bad", what)
		}
		if r.Bit() != 0 || r.Bits(1) != 0 || r.Text(0) != "" || r.Text(1) != "" || !r.Bad {
			t.Errorf("%s: something is read behind it", what)
		}
	}
}

// P1.3

// step is one thing that is written, and how it is read again.
type step struct {
	kind, v, n int
	s          string
}

func (x step) write(w *Writer) {
	switch x.kind {
	case 0:
		w.Bit(x.v)
	case 1:
		w.Put(x.v, x.n)
	case 2:
		w.Turn(x.v, x.n)
	case 3:
		w.Align()
	default:
		w.Text(x.s)
	}
}

func (x step) readAgain(r *Reader) bool {
	switch x.kind {
	case 0:
		return r.Bit() == x.v&1
	case 1:
		return r.Bits(x.n) == low(x.v, x.n).number()
	case 2:
		var l trace
		for range clip(x.n) {
			l = append(l, r.Bit())
		}
		return l.turned().number() == low(x.v, x.n).number()
	case 3:
		r.Align()
		return true
	default:
		return r.Text(len(x.s)) == x.s
	}
}

func anyStep(rnd *rand.Rand) step {
	s := make([]byte, rnd.Intn(20))
	rnd.Read(s)
	return step{rnd.Intn(5), int(rnd.Uint64()), rnd.Intn(40) - 4, string(s)}
}

func TestWhatIsWrittenIsRead(t *testing.T) {
	rnd := rand.New(rand.NewSource(1))
	for range 2000 {
		w, l := &Writer{}, []step(nil)
		for range rnd.Intn(30) {
			x := anyStep(rnd)
			l = append(l, x)
			x.write(w)
		}
		r := &Reader{S: w.Bytes()}
		for _, x := range l {
			if !x.readAgain(r) || r.Bad {
				t.Fatalf("%+v of %+v: not read again", x, l)
			}
		}
		if r.At != w.N || r.Used() != len(w.Out) {
			t.Fatalf("%+v: %d bits written, %d read", l, w.N, r.At)
		}
	}
}

func TestManyBits(t *testing.T) {
	s := strings.Repeat("stevedore", 20000)
	w := &Writer{}
	for i := range len(s) {
		w.Put(int(s[i]), 8)
	}
	w.Text(s)
	r := &Reader{S: w.Bytes()}
	for i := range len(s) {
		if r.Bits(8) != int(s[i]) {
			t.Fatalf("byte %d", i)
		}
	}
	if r.Text(len(s)) != s || r.Bad || r.Used() != 2*len(s) {
		t.Error("the text isn't read again")
	}
}

// P1

// calls are all that can be asked of a reader.
func calls(n int) []func(r *Reader) {
	return []func(r *Reader){
		func(r *Reader) { r.Bit() },
		func(r *Reader) { r.Bits(n) },
		func(r *Reader) { r.Align() },
		func(r *Reader) { r.Text(n) },
		func(r *Reader) { r.Used() },
	}
}

// Not even writers and readers that aren't made as the chapter says panic; what they answer is of no account.
func TestNothingPanics(t *testing.T) {
	for _, at := range []int{math.MinInt, math.MinInt + 1, -9, -8, -1, 0, 1, 24, 25, 32, math.MaxInt - 7, math.MaxInt} {
		for _, n := range counts {
			for _, r := range []Reader{{S: "abc", At: at}, {At: at}, {S: "abc", At: at, Bad: true}} {
				for _, first := range calls(n) {
					for _, second := range calls(n) {
						x := r
						first(&x)
						second(&x)
					}
				}
			}
			for _, w := range []*Writer{{N: at}, {Out: []byte("abc"), N: at}} {
				w.Put(n, n)
				w.Turn(n, n)
				w.Bit(n)
				w.Align()
				w.Text("a")
				w.Bytes()
			}
		}
	}
}

func TestWritersAndReadersStandAlone(t *testing.T) {
	v, w := &Writer{}, &Writer{}
	v.Put(1, 4)
	w.Put(2, 4)
	v.Put(3, 4)
	w.Put(4, 4)
	if v.Bytes() != "\x31" || w.Bytes() != "\x42" {
		t.Errorf("%x %x", v.Bytes(), w.Bytes())
	}
	p, q := &Reader{S: "a"}, &Reader{S: "a"}
	p.Bits(30)
	if !p.Bad || q.Bad || q.At != 0 || q.Bits(8) != 'a' {
		t.Error("a reader is changed by another one")
	}
}
