package ender

import (
	"archive/zip"
	"bytes"
	"fmt"
	"io"
	"math"
	"math/rand"
	"strings"
	"sync"
	"testing"

	"stevedore/api"
)

// ordinary is an end whose bytes are all different.
func ordinary() api.End {
	return api.End{Count: 0x0201, Size: 0x11121314, At: 0x21222324, Note: "fine"}
}

// ordinaryWide is one that is Wide whose bytes are all different.
func ordinaryWide() api.End {
	return api.End{Count: 0xa5a4a3a2a1, Size: 0x1112131415161718, At: 0x0102030405060708, Note: "fine", Wide: true}
}

// near is ends that may be written, with few bytes ahead of them.
func near() []api.End {
	var out []api.End
	for _, e := range []api.End{
		{},
		{Note: "n"},
		{Count: 2, Size: 5, At: 3},
		{Count: 65534, Size: 94, At: 1, Note: "two\nlines"},
		{Count: 1, Size: 47, At: 31, Note: "PK\x05\x06"},
		{Count: 255, Size: 300, Note: "\x00"},
		{Count: 256, At: 257, Note: "PK\x06\x06PK\x06\x07PK\x05\x06"},
		{Count: 0x4b50, Size: 7, At: 7, Note: strings.Repeat("\x00", 40)},
		{Note: strings.Repeat("\xff", 30)},
		{Count: 0x0605, Size: 1, Note: strings.Repeat("PK\x05\x06", 7)},
	} {
		out = append(out, e)
		e.Wide = true
		out = append(out, e)
	}
	return append(out,
		api.End{Count: 65535, Size: 3, At: 4, Wide: true},
		api.End{Count: 1 << 40, Size: 4, At: 3, Note: "w", Wide: true},
		api.End{Count: 0xa5a4a3a2a1, Size: 100, At: 156, Note: "x", Wide: true},
	)
}

// samples is ends that may be written, of all kinds.
func samples() []api.End {
	return append(near(),
		ordinary(),
		ordinaryWide(),
		api.End{Count: 65534, Size: 1<<32 - 2, At: 1<<32 - 2, Note: "most"},
		api.End{Count: 65535, Size: 1<<32 - 1, At: 1<<32 - 1, Wide: true},
		api.End{Count: 1 << 40, Size: 1 << 61, At: 1 << 61, Note: "most", Wide: true},
		api.End{Size: 1 << 61, Wide: true},
		api.End{At: 1 << 61, Wide: true},
	)
}

// tell tells an end for a message.
func tell(e api.End) string {
	if len(e.Note) > 40 {
		e.Note = fmt.Sprintf("%.40s..(%d)", e.Note, len(e.Note))
	}
	return fmt.Sprintf("%+q", fmt.Sprintf("%+v", e))
}

// short tells bytes for a message.
func short(s string) string {
	if len(s) > 240 {
		return fmt.Sprintf("%x..%x(%d)", s[:120], s[len(s)-120:], len(s))
	}
	return fmt.Sprintf("%x", s)
}

// holdRight holds Right against the chapter's words.
func holdRight(t *testing.T, e api.End, asked bool) {
	t.Helper()
	if Right(e) != asked || saidRight(e) != asked {
		t.Errorf("Right(%s): %v, asked for %v", tell(e), Right(e), asked)
	}
}

// holdPrint holds what is written of an end that may be, against the chapter's words.
func holdPrint(t *testing.T, e api.End) {
	t.Helper()
	holdRight(t, e, true)
	if s := Print(e); s != saidPrint(e) {
		t.Errorf("Print(%s): %s, asked for %s", tell(e), short(s), short(saidPrint(e)))
	}
}

// holdFind holds Find against the chapter's words, and tells whether there is an end.
func holdFind(t *testing.T, s string) bool {
	t.Helper()
	asked, said := saidFind(s)
	if e, is := Find(s); e != asked || is != said {
		t.Errorf("Find of %s: %s %v, asked for %s %v", short(s), tell(e), is, tell(asked), said)
	}
	return said
}

// holdFound holds that just this end is found.
func holdFound(t *testing.T, s string, asked api.End) {
	t.Helper()
	if e, is := Find(s); e != asked || !is {
		t.Errorf("Find of %s: %s %v, asked for %s", short(s), tell(e), is, tell(asked))
	}
	if !holdFind(t, s) {
		t.Errorf("the chapter has no end of %s", short(s))
	}
}

// holdNone holds that there is no end.
func holdNone(t *testing.T, s string) {
	t.Helper()
	if e, is := Find(s); e != (api.End{}) || is {
		t.Errorf("Find of %s: %s %v, asked for none", short(s), tell(e), is)
	}
	if holdFind(t, s) {
		t.Errorf("the chapter has an end of %s", short(s))
	}
}

// changed is a text with other bytes from a place on.
func changed(s string, at int, with string) string {
	return s[:at] + with + s[at+len(with):]
}

// low is a number's lowest bytes.
func low(size, n int) string {
	var b []byte
	for i := range size {
		b = append(b, byte(n>>(8*i)))
	}
	return string(b)
}

// fills is bytes that may stand ahead of an end, so many of them.
func fills(n int) []string {
	return []string{
		strings.Repeat("\x00", n),
		strings.Repeat("\xff", n),
		strings.Repeat("PK\x05\x06", n/4+1)[:n],
		strings.Repeat("PK\x06\x06", n/4+1)[:n],
		strings.Repeat("entries and records, ", n/21+1)[:n],
		strings.Repeat(saidPrint(api.End{}), n/22+1)[:n],
	}
}

// whole is an end's bytes behind as many as it says.
func whole(e api.End) string {
	return strings.Repeat("a", e.Size+e.At) + saidPrint(e)
}

// where is where an end's own 22 bytes begin in its whole text.
func where(e api.End) int {
	if e.Wide {
		return e.Size + e.At + ownAt
	}
	return e.Size + e.At
}

// Ordinary inputs.

func TestExample(t *testing.T) {
	s := "PK\x05\x06" + strings.Repeat("\x00", 18)
	if p := Print(api.End{}); p != s || len(p) != 22 {
		t.Errorf("%x", p)
	}
	holdRight(t, api.End{}, true)
	holdRight(t, api.End{Count: 1, Size: 47, At: 31, Note: "n"}, true)
	holdRight(t, api.End{Count: -1}, false)
	holdFound(t, s, api.End{})
	holdFound(t, "01234567"+Print(api.End{Count: 1, Size: 5, At: 3, Note: "n"}), api.End{Count: 1, Size: 5, At: 3, Note: "n"})
	holdNone(t, "0123456"+Print(api.End{Count: 1, Size: 5, At: 3, Note: "n"}))
	holdNone(t, "")
}

const noughts = "\x00\x00\x00\x00"

func TestWrittenOut(t *testing.T) {
	s := "PK\x05\x06" + "\x00\x00" + "\x00\x00" + "\x01\x02" + "\x01\x02" + "\x14\x13\x12\x11" + "\x24\x23\x22\x21" + "\x04\x00" + "fine"
	if p := Print(ordinary()); p != s {
		t.Errorf("%x", p)
	}
}

func TestWrittenOutWide(t *testing.T) {
	count, size, at := "\xa1\xa2\xa3\xa4\xa5\x00\x00\x00", "\x18\x17\x16\x15\x14\x13\x12\x11", "\x08\x07\x06\x05\x04\x03\x02\x01"
	s := "PK\x06\x06" + "\x2c\x00\x00\x00\x00\x00\x00\x00" + "\x2d\x00" + "\x2d\x00" + noughts + noughts + count + count + size + at
	// Both together: 0x1214161a1a1c1e20, the fields' sum.
	s += "PK\x06\x07" + noughts + "\x20\x1e\x1c\x1a\x18\x16\x14\x12" + "\x01\x00\x00\x00"
	s += "PK\x05\x06" + "\x00\x00" + "\x00\x00" + "\xff\xff" + "\xff\xff" + "\xff\xff\xff\xff" + "\xff\xff\xff\xff" + "\x04\x00" + "fine"
	if p := Print(ordinaryWide()); p != s {
		t.Errorf("%x", p)
	}
}

// Of one that is Wide no number stands in the end's own fields, however small.
func TestWrittenOutSmallWide(t *testing.T) {
	s := "PK\x06\x06" + "\x2c\x00\x00\x00\x00\x00\x00\x00" + "\x2d\x00" + "\x2d\x00" + noughts + noughts + "\x02\x00\x00\x00" + noughts + "\x02\x00\x00\x00" + noughts + "\x05\x00\x00\x00" + noughts + "\x03\x00\x00\x00" + noughts
	s += "PK\x06\x07" + noughts + "\x08\x00\x00\x00" + noughts + "\x01\x00\x00\x00"
	s += "PK\x05\x06" + noughts + "\xff\xff\xff\xff" + "\xff\xff\xff\xff" + "\xff\xff\xff\xff" + "\x00\x00"
	e := api.End{Count: 2, Size: 5, At: 3, Wide: true}
	if p := Print(e); p != s || len(p) != 98 {
		t.Errorf("%x", p)
	}
	holdFound(t, "01234567"+s, e)
}

// P15.1: Right, at the fields' edges.

// numbers is pointers to an end's numbers.
func numbers(e *api.End) []*int {
	return []*int{&e.Count, &e.Size, &e.At}
}

// mostOf is the greatest number that a field may have.
func mostOf(place int, wide bool) int {
	switch {
	case place == 0 && wide:
		return 1099511627776
	case place == 0:
		return 65534
	case wide:
		return 2305843009213693952
	}
	return 4294967294
}

// with is an end with another number in one of its fields.
func with(e api.End, place, n int) api.End {
	*numbers(&e)[place] = n
	return e
}

func TestRightAtEachEdge(t *testing.T) {
	for _, base := range samples() {
		for place := range 3 {
			most := mostOf(place, base.Wide)
			for _, n := range []int{0, 1, most - 1, most} {
				holdRight(t, with(base, place, n), true)
			}
			for _, n := range []int{-1, -2, most + 1, most + 2, math.MinInt, math.MinInt + 1, math.MaxInt, math.MaxInt - 1, math.MinInt32, 1 << 62, -1 << 62, -1 << 40, -1 << 32, -1<<32 + 1} {
				holdRight(t, with(base, place, n), false)
			}
			for _, n := range []int{65533, 65534, 65535, 65536, 1<<31 - 1, 1 << 31, 1<<32 - 2, 1<<32 - 1, 1 << 32, 1<<32 + 1, 1<<40 - 1, 1 << 40, 1<<40 + 1, 1<<53 + 1, 1<<61 - 1, 1 << 61, 1<<61 + 1} {
				holdRight(t, with(base, place, n), n <= most)
			}
		}
	}
}

// The edges that are told by number.
func TestRightWrittenOut(t *testing.T) {
	for _, x := range []struct {
		e     api.End
		asked bool
	}{
		{api.End{Count: -1}, false},
		{api.End{Count: 65534}, true},
		{api.End{Count: 65535}, false},
		{api.End{Count: -1, Wide: true}, false},
		{api.End{Wide: true}, true},
		{api.End{Count: 65535, Wide: true}, true},
		{api.End{Count: 1099511627776, Wide: true}, true},
		{api.End{Count: 1099511627777, Wide: true}, false},
		{api.End{Size: -1}, false},
		{api.End{Size: 4294967294}, true},
		{api.End{Size: 4294967295}, false},
		{api.End{Size: -1, Wide: true}, false},
		{api.End{Size: 4294967295, Wide: true}, true},
		{api.End{Size: 2305843009213693952, Wide: true}, true},
		{api.End{Size: 2305843009213693953, Wide: true}, false},
		{api.End{At: -1}, false},
		{api.End{At: 4294967294}, true},
		{api.End{At: 4294967295}, false},
		{api.End{At: -1, Wide: true}, false},
		{api.End{At: 4294967295, Wide: true}, true},
		{api.End{At: 2305843009213693952, Wide: true}, true},
		{api.End{At: 2305843009213693953, Wide: true}, false},
		{api.End{Size: 4294967294, At: 4294967294}, true},
		{api.End{Size: 2305843009213693952, At: 2305843009213693952, Wide: true}, true},
		{api.End{Note: strings.Repeat("n", 65535)}, true},
		{api.End{Note: strings.Repeat("n", 65536)}, false},
		{api.End{Note: strings.Repeat("n", 65535), Wide: true}, true},
		{api.End{Note: strings.Repeat("n", 65536), Wide: true}, false},
	} {
		holdRight(t, x.e, x.asked)
	}
}

func TestRightOfLongNotes(t *testing.T) {
	long := strings.Repeat("n", 65537)
	for _, base := range samples() {
		for _, n := range []int{0, 1, 255, 256, 32767, 32768, 65534, 65535, 65536, 65537} {
			base.Note = long[:n]
			holdRight(t, base, n <= 65535)
		}
	}
	for _, wide := range []bool{false, true} {
		holdRight(t, api.End{Note: strings.Repeat("n", 1<<17), Wide: wide}, false)
		// A comment may be any bytes.
		holdRight(t, api.End{Note: "\x00\xff\xfe\n\x80\xc0", Wide: wide}, true)
	}
}

// All rows of fields' edges.
func TestRightAtEdgesTogether(t *testing.T) {
	long := strings.Repeat("n", 65536)
	let := 0
	for _, wide := range []bool{false, true} {
		for row := range 6 * 6 * 6 {
			e := api.End{Wide: wide}
			asked := true
			for place, rest := 0, row; place < 3; place, rest = place+1, rest/6 {
				most := mostOf(place, wide)
				*numbers(&e)[place] = [6]int{0, most, most - 1, -1, most + 1, math.MinInt}[rest%6]
				asked = asked && rest%6 < 3
			}
			for n, may := range map[int]bool{0: true, 1: true, 65535: true, 65536: false} {
				e.Note = long[:n]
				holdRight(t, e, asked && may)
				if asked && may {
					let++
				}
			}
		}
	}
	if let != 2*27*3 {
		t.Errorf("%d are let in", let)
	}
}

func TestRightFarOut(t *testing.T) {
	far := []int{math.MinInt, math.MaxInt, math.MinInt + 1, math.MaxInt - 1, 1 << 62, -1 << 62, 1 << 61, -1 << 61, 1 << 32, -1 << 32, 1 << 16, -1 << 16, 0}
	for _, wide := range []bool{false, true} {
		for _, count := range far {
			for _, size := range far {
				for _, at := range far {
					e := api.End{Count: count, Size: size, At: at, Wide: wide}
					holdRight(t, e, saidRight(e))
				}
			}
		}
		for _, n := range far {
			for place := range 3 {
				holdRight(t, with(api.End{Wide: wide}, place, n), n >= 0 && n <= mostOf(place, wide))
			}
		}
	}
}

// P15.1: Print.

func TestPrintSamples(t *testing.T) {
	for _, e := range samples() {
		holdPrint(t, e)
	}
}

func TestPrintAtEachEdge(t *testing.T) {
	for _, base := range samples() {
		for place := range 3 {
			most := mostOf(place, base.Wide)
			for _, n := range []int{0, 1, 255, 256, 65534, most / 2, most - 1, most} {
				holdPrint(t, with(base, place, n))
			}
			// A number of which each bit is alone.
			for bit := range 62 {
				if 1<<bit <= most {
					holdPrint(t, with(base, place, 1<<bit))
				}
			}
		}
	}
}

// Each field at its own place, all others being noughts.
func TestPrintFieldByField(t *testing.T) {
	for _, x := range []struct {
		e      api.End
		fields map[int]string
	}{
		{api.End{Count: 0x1234}, map[int]string{count1At: "\x34\x12", count2At: "\x34\x12"}},
		{api.End{Size: 0x12345678}, map[int]string{sizeAt: "\x78\x56\x34\x12"}},
		{api.End{At: 0x12345678}, map[int]string{placeAt: "\x78\x56\x34\x12"}},
		{api.End{Count: 0x123456789a, Wide: true}, map[int]string{wideCount1At: "\x9a\x78\x56\x34\x12", wideCount2At: "\x9a\x78\x56\x34\x12"}},
		{api.End{Size: 0x123456789abcdef0, Wide: true}, map[int]string{wideSizeAt: "\xf0\xde\xbc\x9a\x78\x56\x34\x12", locPlaceAt: "\xf0\xde\xbc\x9a\x78\x56\x34\x12"}},
		{api.End{At: 0x123456789abcdef0, Wide: true}, map[int]string{widePlaceAt: "\xf0\xde\xbc\x9a\x78\x56\x34\x12", locPlaceAt: "\xf0\xde\xbc\x9a\x78\x56\x34\x12"}},
		{api.End{Size: 0xffffffff, At: 1, Wide: true}, map[int]string{wideSizeAt: "\xff\xff\xff\xff", widePlaceAt: "\x01", locPlaceAt: "\x00\x00\x00\x00\x01"}},
	} {
		asked := Print(api.End{Wide: x.e.Wide})
		for at, s := range x.fields {
			asked = changed(asked, at, s)
		}
		if s := Print(x.e); s != asked {
			t.Errorf("%s: %x, asked for %x", tell(x.e), s, asked)
		}
		note, own := x.e, len(asked)
		note.Note = strings.Repeat("\x05", 0x0203)
		if s := Print(note); s != changed(asked, own-2, "\x03\x02")+note.Note {
			t.Errorf("%s: %s", tell(note), short(s))
		}
	}
}

func TestPrintLongNotes(t *testing.T) {
	long := strings.Repeat("long ", 13107)
	for _, base := range []api.End{{}, {Wide: true}, ordinary(), ordinaryWide()} {
		for _, n := range []int{0, 1, 255, 256, 32768, 65534, 65535} {
			base.Note = long[:n]
			holdPrint(t, base)
			size := 22 + n
			if base.Wide {
				size += 76
			}
			if len(Print(base)) != size {
				t.Errorf("%s: %d bytes, asked for %d", tell(base), len(Print(base)), size)
			}
		}
	}
}

// P15.2: Find of what Print writes.

func TestFindsWhatIsPrinted(t *testing.T) {
	for _, e := range near() {
		s := Print(e)
		for _, ahead := range fills(e.Size + e.At) {
			holdFound(t, ahead+s, e)
		}
	}
}

// One byte more ahead, or one fewer.
func TestFindsNoneBehindOthers(t *testing.T) {
	for _, e := range near() {
		s := Print(e)
		for _, n := range []int{-1, 1, -2, 2, 22, 76, 98, -22, -76, 256, 65536, e.Size + e.At, len(s)} {
			if n == 0 || e.Size+e.At+n < 0 {
				continue
			}
			for _, ahead := range fills(e.Size + e.At + n) {
				holdNone(t, ahead+s)
			}
		}
	}
}

// And bytes behind it: the comment's length says that there are none.
func TestFindsNoneAheadOfOthers(t *testing.T) {
	for _, e := range near() {
		for _, behind := range []string{"\x00", "\xff", "n", "PK", "PK\x05\x06", noughts, saidPrint(api.End{}), strings.Repeat("\x00", 22), strings.Repeat("\x00", 300), strings.Repeat("n", 65535), strings.Repeat("n", 65536)} {
			holdNone(t, whole(e)+behind)
		}
	}
}

// All splits of the bytes ahead into entries and central records.
func TestFindsEachSplit(t *testing.T) {
	for _, wide := range []bool{false, true} {
		for _, n := range []int{0, 1, 2, 76, 98, 255, 256, 257} {
			for size := range n + 1 {
				e := api.End{Count: size, Size: size, At: n - size, Note: "n", Wide: wide}
				holdFound(t, whole(e), e)
				holdNone(t, whole(e)[1:])
				holdNone(t, "a"+whole(e))
			}
		}
	}
}

func TestFindsEachCount(t *testing.T) {
	for _, wide := range []bool{false, true} {
		for _, n := range []int{0, 1, 255, 256, 32767, 32768, 65533, 65534, 65535, 65536, 1<<32 - 1, 1 << 32, 1<<40 - 1, 1 << 40} {
			e := api.End{Count: n, Size: 2, At: 1, Wide: wide}
			switch {
			case wide || n <= 65534:
				holdFound(t, whole(e), e)
			case n == 65535:
				holdNone(t, whole(e))
			}
		}
	}
}

func TestFindsAllCounts(t *testing.T) {
	for count := range 65536 {
		for _, wide := range []bool{false, true} {
			e := api.End{Count: count, Size: 1, Wide: wide}
			f, is := Find("a" + Print(e))
			if asked := wide || count < 65535; is != asked || asked && f != e {
				t.Fatalf("%s: %s %v", tell(e), tell(f), is)
			}
		}
	}
}

// Comments of each length, the longest one too, and one byte more.
func TestFindsLongNotes(t *testing.T) {
	long := strings.Repeat("long ", 13108)
	for _, base := range []api.End{{}, {Wide: true}, {Count: 1, Size: 2, At: 3}, {Count: 1, Size: 2, At: 3, Wide: true}} {
		for _, n := range []int{0, 1, 2, 21, 22, 23, 255, 256, 257, 32767, 32768, 65534, 65535} {
			base.Note = long[:n]
			holdFound(t, whole(base), base)
			holdNone(t, whole(base)+"l")
			if n > 0 {
				holdNone(t, whole(base)[:len(whole(base))-1])
			}
		}
		// A length of 65536 has no field: it would say 0.
		base.Note = long[:65536]
		holdNone(t, whole(base))
		base.Note = long[:65537]
		holdNone(t, whole(base))
	}
	for n := range 2000 {
		e := api.End{Count: 1, Size: 2, Note: long[:n], Wide: n%2 == 1}
		if f, is := Find(whole(e)); f != e || !is {
			t.Fatalf("%s: %s %v", tell(e), tell(f), is)
		}
	}
}

// Many bytes ahead.
func TestFindsFarBehind(t *testing.T) {
	ahead := strings.Repeat("\x00", 1<<24+70000)
	for _, n := range []int{65535, 65536, 1 << 20, 1<<24 - 1, 1 << 24, 1<<24 + 1} {
		for _, wide := range []bool{false, true} {
			for _, e := range []api.End{{Size: n, Wide: wide}, {At: n, Note: "n", Wide: wide}, {Count: 9, Size: n / 3, At: n - n/3, Wide: wide}} {
				if f, is := Find(ahead[:n] + Print(e)); f != e || !is {
					t.Errorf("%s: %s %v", tell(e), tell(f), is)
				}
				for _, other := range []int{n - 1, n + 1, n - 256, n + 256, n + 65536, n - 65535} {
					if f, is := Find(ahead[:other] + Print(e)); f != (api.End{}) || is {
						t.Errorf("%s behind %d: %s %v", tell(e), other, tell(f), is)
					}
				}
			}
		}
	}
}

// P15.2: Find of bytes with one change.

// Bytes that have but one way to be: all but a comment's, and those of a number that may be another.
func TestBytesThatMayNotBeChanged(t *testing.T) {
	for _, e := range near() {
		s := whole(e)
		for at := e.Size + e.At; at < len(s)-len(e.Note); at++ {
			for add := 1; add < 256; add++ {
				holdNone(t, changed(s, at, string([]byte{s[at] + byte(add)})))
			}
		}
	}
}

// A comment's bytes may be any: it is another end's. So may those ahead.
func TestBytesThatMayBeChanged(t *testing.T) {
	for _, e := range near() {
		s := whole(e)
		for i := range e.Note {
			at := len(s) - len(e.Note) + i
			for add := 1; add < 256; add++ {
				b := changed(s, at, string([]byte{s[at] + byte(add)}))
				other := e
				other.Note = b[len(s)-len(e.Note):]
				holdFound(t, b, other)
			}
		}
		for at := range e.Size + e.At {
			for _, c := range "\x00PK\xff" {
				holdFound(t, changed(s, at, string([]byte{byte(c)})), e)
			}
		}
	}
}

// Both counts changed alike are another end's, one of them none's.
func TestCountsThatDiffer(t *testing.T) {
	for _, e := range near() {
		s, size := whole(e), 2
		first := where(e) + count1At
		if e.Wide {
			first, size = e.Size+e.At+wideCount1At, 8
		}
		for _, n := range []int{0, 1, 2, 255, 256, 65534, e.Count ^ 1, e.Count ^ 256} {
			if n == e.Count || n > mostOf(0, e.Wide) {
				continue
			}
			holdNone(t, changed(s, first, low(size, n)))
			holdNone(t, changed(s, first+size, low(size, n)))
			holdFound(t, changed(s, first, low(size, n)+low(size, n)), with(e, 0, n))
		}
	}
}

// A number that moves from one field into the other is another end's.
func TestSizesThatMove(t *testing.T) {
	for _, e := range near() {
		s, size, first := whole(e), 4, where(e)+sizeAt
		if e.Wide {
			size, first = 8, e.Size+e.At+wideSizeAt
		}
		sum := e.Size + e.At
		for n := range sum + 1 {
			other := with(with(e, 1, n), 2, sum-n)
			holdFound(t, changed(s, first, low(size, n)+low(size, sum-n)), other)
			if n != e.Size {
				holdNone(t, changed(s, first, low(size, n)))
				holdNone(t, changed(s, first+size, low(size, sum-n)))
			}
			holdNone(t, changed(s, first, low(size, n)+low(size, sum-n+1)))
		}
	}
}

// Sums that are right only when they are wrapped round.
func TestSumsThatWrap(t *testing.T) {
	for _, n := range []int{0, 1, 5, 100} {
		ahead := strings.Repeat("a", n)
		plain, wide := ahead+saidPrint(api.End{}), ahead+saidPrint(api.End{Wide: true})
		for _, k := range []int{n + 1, n + 2, 1 << 16, 1 << 31, 1<<32 - 1 - n, 1<<32 - 2, 1<<32 - 1} {
			holdNone(t, changed(plain, n+sizeAt, low(4, k)+low(4, n-k)))
			holdNone(t, changed(plain, n+sizeAt, low(4, n-k)+low(4, k)))
		}
		for _, k := range []int{n + 1, 1 << 61, 1 << 62, math.MaxInt, math.MinInt, math.MinInt + n, -1, -2, -1 << 62, -1 << 61, 1<<62 + 1<<61} {
			for _, numbers := range []string{low(8, k) + low(8, n-k), low(8, n-k) + low(8, k)} {
				b := changed(wide, n+wideSizeAt, numbers)
				holdNone(t, b)
				holdNone(t, changed(b, n+locPlaceAt, low(8, n)))
			}
		}
	}
}

// Of one that isn't Wide a field's own most says that there are 64-bit records: without these there is none.
func TestFullFieldsWithoutWide(t *testing.T) {
	for _, n := range []int{0, 1, 75, 76, 77, 200} {
		e := api.End{Count: 3, Size: n}
		s := whole(e)
		for row := 1; row < 16; row++ {
			b := s
			for i, x := range []struct{ at, size int }{{count1At, 2}, {count2At, 2}, {sizeAt, 4}, {placeAt, 4}} {
				if row>>i&1 == 1 {
					b = changed(b, n+x.at, strings.Repeat("\xff", x.size))
				}
			}
			holdNone(t, b)
		}
		holdNone(t, changed(s, n+count1At, "\xff\xff\xff\xff"))
		holdFound(t, changed(s, n+count1At, "\xfe\xff\xfe\xff"), with(e, 0, 65534))
	}
}

// Of one that is Wide no number stands in its own field, not even where it is the same.
func TestOwnFieldsOfWide(t *testing.T) {
	for _, e := range near() {
		if !e.Wide {
			continue
		}
		s, own := whole(e), where(e)
		for row := 1; row < 16; row++ {
			for _, x := range [][3]int{{e.Count, e.Size, e.At}, {0, 0, 0}, {65534, 1<<32 - 2, 1<<32 - 2}} {
				b := s
				for i, f := range []struct{ at, size, n int }{{count1At, 2, x[0]}, {count2At, 2, x[0]}, {sizeAt, 4, x[1]}, {placeAt, 4, x[2]}} {
					// The fullest field is as it was, which isn't a change.
					if row>>i&1 == 1 {
						b = changed(b, own+f.at, low(f.size, f.n))
					}
				}
				if b != s {
					holdNone(t, b)
				}
			}
		}
		// One that isn't Wide, behind 64-bit records: they are bytes ahead of it like any.
		plain := api.End{Count: 7, Size: e.Size + 76, At: e.At, Note: e.Note}
		holdFound(t, s[:own]+saidPrint(plain), plain)
		holdNone(t, s[:own]+saidPrint(api.End{Count: 7, Size: e.Size, At: e.At, Note: e.Note}))
	}
}

// wideOf puts bytes together that look like an end's that is Wide, whose pieces may be any.
func wideOf(mark, length, versions, disks, counts, size, at, locator, disk, place, all string) string {
	return mark + length + versions + disks + counts + size + at + locator + disk + place + all + "PK\x05\x06" + noughts + strings.Repeat("\xff", 12) + "\x00\x00"
}

func TestPiecesOfWide(t *testing.T) {
	ahead := strings.Repeat("a", 8)
	e := api.End{Count: 2, Size: 5, At: 3, Wide: true}
	right := []string{"PK\x06\x06", low(8, 44), low(2, 45) + low(2, 45), low(8, 0), low(8, 2) + low(8, 2), low(8, 5), low(8, 3), "PK\x06\x07", low(4, 0), low(8, 8), low(4, 1)}
	put := func(l []string) string {
		return ahead + wideOf(l[0], l[1], l[2], l[3], l[4], l[5], l[6], l[7], l[8], l[9], l[10])
	}
	holdFound(t, put(right), e)
	for i, others := range [][]string{
		{"PK\x06\x07", "PK\x05\x06", "PK\x01\x02", noughts, "pk\x06\x06", "\x06\x06KP"},
		{low(8, 0), low(8, 43), low(8, 45), low(8, 56), low(8, 44+1<<32), low(8, 44+256), low(8, -44)},
		{low(2, 20) + low(2, 45), low(2, 45) + low(2, 20), low(2, 20) + low(2, 20), low(2, 45+3<<8) + low(2, 45), low(2, 45) + low(2, 46), low(4, 45)},
		{low(8, 1), low(8, 1<<32), low(8, 1<<32+1), low(8, -1)},
		{low(8, 2) + low(8, 1), low(8, 1) + low(8, 2), low(8, 2) + low(8, 2+1<<32), low(8, 2+1<<40) + low(8, 2+1<<40), low(8, 1<<40+1) + low(8, 1<<40+1), low(8, 1<<41) + low(8, 1<<41), low(8, -1) + low(8, -1), low(8, math.MinInt+2) + low(8, math.MinInt+2), low(8, 65535) + low(8, 2), low(8, 2+1<<63>>1) + low(8, 2+1<<63>>1)},
		{low(8, 0), low(8, 4), low(8, 6), low(8, 5+1<<32), low(8, 5+1<<56), low(8, math.MinInt+5), low(8, -5)},
		{low(8, 0), low(8, 2), low(8, 4), low(8, 3+1<<32), low(8, 3+1<<56), low(8, math.MinInt+3), low(8, -3)},
		{"PK\x06\x06", "PK\x05\x06", "PK\x07\x08", noughts, "pk\x06\x07", "\x06\x07KP"},
		{low(4, 1), low(4, 65535), low(4, -1), low(4, 1<<24)},
		{low(8, 0), low(8, 3), low(8, 5), low(8, 7), low(8, 9), low(8, 84), low(8, 8+1<<32), low(8, math.MinInt+8), low(8, -8), low(8, -1)},
		{low(4, 0), low(4, 2), low(4, 256), low(4, 257), low(4, 1+1<<16), low(4, -1)},
	} {
		for _, other := range others {
			l := append([]string(nil), right...)
			l[i] = other
			holdNone(t, put(l))
		}
	}
	for _, count := range []int{0, 1, 65534, 65535, 65536, 1<<40 - 1, 1 << 40} {
		l := append([]string(nil), right...)
		l[4] = low(8, count) + low(8, count)
		holdFound(t, put(l), with(e, 0, count))
	}
}

// The 64-bit records without the end, the end without them, one of the two without the other.
func TestPiecesAlone(t *testing.T) {
	for _, e := range near() {
		if !e.Wide {
			continue
		}
		n := e.Size + e.At
		s := whole(e)
		record, locator, own := s[n:n+locatorAt], s[n+locatorAt:n+ownAt], s[n+ownAt:]
		for _, ahead := range fills(n) {
			for _, b := range []string{record, locator, own, record + locator, record + own, locator + own, locator + record + own, record + record + locator + own, record + locator + locator + own, record + locator + own + own, own + record + locator + own, record + locator + "\x00" + own, record + "\x00" + locator + own} {
				holdNone(t, ahead+b)
			}
		}
		// With as many bytes instead.
		for _, other := range fills(ownAt) {
			holdNone(t, s[:n]+other+own)
			holdNone(t, s[:n]+other[:locatorAt]+locator+own)
			holdNone(t, s[:n]+record+other[locatorAt:]+own)
		}
	}
}

// The marks of other kinds of bytes, and of none.
func TestMarks(t *testing.T) {
	for _, e := range near() {
		s := whole(e)
		for _, mark := range []string{"PK\x01\x02", "PK\x03\x04", "PK\x07\x08", "PK\x06\x06", "PK\x06\x07", "PK\x06\x05", "KP\x05\x06", "pk\x05\x06", "\x06\x05KP", noughts, "\xff\xff\xff\xff"} {
			holdNone(t, changed(s, where(e), mark))
		}
	}
}

// Noughts that aren't, by bits.
func TestNoughts(t *testing.T) {
	for _, e := range near() {
		s := whole(e)
		for i := range 4 {
			for bit := range 8 {
				holdNone(t, changed(s, where(e)+disksAt+i, string([]byte{1 << bit})))
			}
		}
		holdNone(t, changed(s, where(e)+disksAt, "\xff\xff\xff\xff"))
	}
}

// Lengths of comments that go beyond the end, or not up to it.
func TestLengthsOfComments(t *testing.T) {
	for _, e := range near() {
		s := whole(e)
		for n := range 65536 {
			if n < 300 || n > 65500 || n%251 == 0 {
				b := changed(s, where(e)+noteLenAt, low(2, n))
				if n == len(e.Note) {
					holdFound(t, b, e)
				} else {
					holdNone(t, b)
				}
			}
		}
	}
}

// Bytes changed in several places.
func TestSeveralChanges(t *testing.T) {
	random := rand.New(rand.NewSource(15))
	all := near()
	found := 0
	for range 200000 {
		e := all[random.Intn(len(all))]
		b := []byte(whole(e))
		for range 1 + random.Intn(3) {
			at := len(b) - 1 - random.Intn(min(len(b), 110))
			switch random.Intn(3) {
			case 0:
				b[at] = byte(random.Intn(256))
			case 1:
				b[at] ^= 1 << random.Intn(8)
			default:
				b[at] = "\x00\xff\x2d\x2c\x01PK\x05\x06\x07"[random.Intn(10)]
			}
		}
		if holdFind(t, string(b)) {
			found++
		}
	}
	if found < 10000 {
		t.Errorf("only %d are ends", found)
	}
}

// P15.2: Find of each cut.

func TestEachCut(t *testing.T) {
	for _, e := range near() {
		s := whole(e)
		for at := range len(s) {
			if at > 0 {
				holdNone(t, s[at:])
			}
			holdNone(t, s[:at])
		}
		// Cut at both sides.
		for from := range min(len(s), 40) {
			for behind := range min(len(s)-from, 40) {
				if from+behind > 0 {
					holdNone(t, s[from:len(s)-behind])
				}
			}
		}
	}
}

// A cut that leaves another end's bytes: the first of two that are laid behind one another, and the second.
func TestCutsThatLeaveAnEnd(t *testing.T) {
	for _, e := range near() {
		first := whole(e)
		for _, f := range near() {
			// The second lies behind the first as a tail does.
			f.At = len(first)
			s := first + strings.Repeat("b", f.Size) + Print(f)
			if len(f.Note) > 0 && strings.Contains(f.Note, "PK") || len(s) > 600 {
				continue
			}
			holdFound(t, s, f)
			for at := range len(s) {
				if at == len(first) {
					holdFound(t, s[:at], e)
				} else {
					holdNone(t, s[:at])
				}
			}
		}
	}
}

func TestBytesMissedAndAdded(t *testing.T) {
	for _, e := range near() {
		s := whole(e)
		for at := e.Size + e.At; at < len(s); at++ {
			holdFind(t, s[:at]+s[at+1:])
			for _, c := range []byte{0, 'P', 0xff, s[at]} {
				b := s[:at] + string([]byte{c}) + s[at:]
				holdFind(t, b)
				holdFind(t, b+"\x00")
			}
			// One missed, one added.
			holdFind(t, "a"+s[:at]+s[at+1:])
			holdFind(t, s[:at]+s[at+1:]+"\x00")
		}
	}
}

// P15.2: of several the one with the shortest comment.

// nested is a text of ends in one another's comments, Wide as the flags say, the first one outmost; all of them fit.
func nested(wide []bool, note string, ahead int) (string, []api.End) {
	e := api.End{Count: len(wide), Size: ahead / 2, At: ahead - ahead/2, Wide: wide[0], Note: note}
	if len(wide) == 1 {
		return saidPrint(e), []api.End{e}
	}
	own := 22
	if e.Wide {
		own = 98
	}
	inner, ends := nested(wide[1:], note, ahead+own+len(note))
	e.Note += inner
	return saidPrint(e), append([]api.End{e}, ends...)
}

func TestEndsInComments(t *testing.T) {
	for depth := 2; depth <= 4; depth++ {
		for row := range 1 << depth {
			var wide []bool
			for i := range depth {
				wide = append(wide, row>>i&1 == 1)
			}
			for _, note := range []string{"", "n", "between", noughts, "PK\x05\x06"} {
				for _, n := range []int{0, 1, 40, 300} {
					s, ends := nested(wide, note, n)
					s = strings.Repeat("a", n) + s
					if got := saidEnds(s); len(got) != depth {
						t.Fatalf("%d ends fit, asked for %d: %s", len(got), depth, short(s))
					}
					holdFound(t, s, ends[depth-1])
					// The inmost spoilt, the one around it is found, with what is spoilt in its comment.
					for i := depth - 1; i > 0; i-- {
						at := len(s) - len(ends[i].Note) - 22
						s = changed(s, at+disksAt, "\x01")
						e := ends[i-1]
						e.Note = s[len(s)-len(e.Note):]
						holdFound(t, s, e)
					}
				}
			}
		}
	}
}

// An end in a comment that doesn't fit by itself: where it lies, what it says of its comment.
func TestEndsInCommentsThatDoNotFit(t *testing.T) {
	for _, outer := range near() {
		for _, inner := range near() {
			// The inner one says where it would lie alone.
			e := outer
			e.Note = saidPrint(inner)
			fits := inner.Size+inner.At == where(e)+22
			if !fits {
				holdFound(t, whole(e), e)
			}
			// It fits, but for a byte more or fewer.
			ahead := where(e) + 22
			inner.Size, inner.At = 1, ahead-1
			e.Note = saidPrint(inner)
			holdFound(t, whole(e), inner)
			for _, n := range []int{ahead - 2, ahead} {
				inner.At = n
				e.Note = saidPrint(inner)
				holdFound(t, whole(e), e)
			}
			inner.At = ahead - 1
			for _, note := range []string{"!" + saidPrint(inner), saidPrint(inner) + "!"} {
				e.Note = note
				holdFound(t, whole(e), e)
			}
			inner.At = ahead
			e.Note = "!" + saidPrint(inner)
			holdFound(t, whole(e), inner)
		}
	}
}

// Ends whose bytes lie over one another: the inner one's begin in the outer one's comment's length.
func TestEndsThatOverlap(t *testing.T) {
	for _, n := range []int{0, 1, 77} {
		for _, wide := range []bool{false, true} {
			outer := api.End{Count: 1, Size: n, Wide: wide}
			at := where(outer) + noteLenAt
			// The mark's first two bytes are the length of the outer one's comment.
			length := 0x4b50
			for _, innerWide := range []bool{false, true} {
				inner := api.End{Count: 2, At: at, Wide: innerWide}
				own := 22
				if innerWide {
					own = 98
				}
				inner.Note = strings.Repeat("i", length+2-own)
				outer.Note = saidPrint(inner)[2:]
				s := whole(outer)
				if s[at:] != saidPrint(inner) || len(saidEnds(s)) != 2 {
					t.Fatalf("they don't overlap: %s", short(s))
				}
				holdFound(t, s, inner)
				spoilt := outer
				spoilt.Note = changed(outer.Note, 2, "\x01")
				holdFound(t, changed(s, at+4, "\x01"), spoilt)
				holdNone(t, changed(s, at, "\x51"))
			}
		}
	}
}

// Many ends in one text: all fit, all in the comments of those ahead.
func TestManyEndsThatFit(t *testing.T) {
	s, last := "", api.End{}
	const total = 22 * 2000
	for len(s) < total {
		last = api.End{Count: len(s) / 22, At: len(s), Note: strings.Repeat("?", total-len(s)-22)}
		s += saidPrint(last)[:22]
	}
	for n := range 2000 {
		if f, is := Find(s[:n*22]); is || f != (api.End{}) {
			t.Fatalf("cut at %d: %s", n, tell(f))
		}
	}
	if got := saidEnds(s); len(got) != 2000 {
		t.Errorf("%d fit", len(got))
	}
	holdFound(t, s, last)
}

// P15.2: empty, short and long texts.

func TestShortTexts(t *testing.T) {
	holdNone(t, "")
	for a := range 256 {
		holdNone(t, string([]byte{byte(a)}))
		for b := range 256 {
			holdNone(t, string([]byte{byte(a), byte(b)}))
		}
	}
	e := Print(api.End{})
	for n := range 22 {
		holdNone(t, e[:n])
		holdNone(t, e[22-n:])
	}
	w := Print(api.End{Wide: true})
	for n := range 98 {
		holdNone(t, w[:n])
		holdNone(t, w[98-n:])
	}
}

func TestOneByteOverAndOver(t *testing.T) {
	for c := range 256 {
		s := strings.Repeat(string([]byte{byte(c)}), 70000)
		for _, n := range []int{1, 2, 21, 22, 23, 97, 98, 99, 200, 65535, 65557, 65558, 70000} {
			if f, is := Find(s[:n]); f != (api.End{}) || is {
				t.Errorf("%d bytes %x: %s %v", n, c, tell(f), is)
			}
		}
		holdNone(t, s[:300])
	}
}

func TestMarksOverAndOver(t *testing.T) {
	for _, piece := range []string{
		"PK\x05\x06", "PK\x06\x06", "PK\x06\x07", "PK\x06\x06PK\x06\x07PK\x05\x06", "PK\x05\x06\x00\x00", "PK\x05\x06" + noughts,
		"PK\x05\x06" + strings.Repeat("\x00", 18), "PK\x05\x06" + noughts + strings.Repeat("\xff", 12) + "\x00\x00", "PK\x05\x06" + strings.Repeat("\xff", 18), strings.Repeat("\xff", 16) + "PK\x05\x06",
	} {
		s := strings.Repeat(piece, 70000/len(piece)+1)
		for _, n := range []int{len(piece) * 2, len(piece)*2 + 1, 100, 200, 1000, 65535, 65557, 65558, 70000} {
			asked, said := saidFind(s[:n])
			if f, is := Find(s[:n]); f != asked || is != said {
				t.Errorf("%x over and over, %d bytes: %s %v", piece, n, tell(f), is)
			}
		}
	}
	// The first of many ends over and over fits alone.
	s := saidPrint(api.End{})
	holdFound(t, s, api.End{})
	holdNone(t, s+s)
	holdFound(t, s+saidPrint(api.End{At: 22}), api.End{At: 22})
}

// Texts that have all that is looked at first, over and over: the search ends in time.
func TestLongTexts(t *testing.T) {
	const size = 1 << 23
	var texts []string
	for _, piece := range []string{"\x00", "\xff", "P", "PK\x05\x06", saidPrint(api.End{}), saidPrint(api.End{Wide: true}), saidPrint(ordinary()), saidPrint(ordinaryWide())} {
		texts = append(texts, strings.Repeat(piece, size/len(piece)))
	}
	// Ends whose places and lengths are right, and whose second disk is wrong.
	b := []byte(strings.Repeat("\x00", size))
	for at := size - 22*2900; at < size; at += 22 {
		copy(b[at:], saidPrint(api.End{At: at})[:20])
		copy(b[at+20:], low(2, size-at-22))
		b[at+6] = 1
	}
	texts = append(texts, string(b))
	// And those that are Wide, whose last disks are two.
	b = []byte(strings.Repeat("\x00", size))
	for at := size - 98*600; at < size; at += 98 {
		copy(b[at:], saidPrint(api.End{Size: at, Wide: true})[:96])
		copy(b[at+96:], low(2, size-at-98))
		b[at+locDisksAt] = 2
	}
	texts = append(texts, string(b))
	for _, s := range texts {
		for range 5 {
			if f, is := Find(s); f != (api.End{}) || is {
				t.Errorf("%s: %s %v", short(s), tell(f), is)
			}
		}
	}
}

// P15.3: ends there and back.

func TestThereAndBack(t *testing.T) {
	random := rand.New(rand.NewSource(153))
	for range 20000 {
		e := api.End{Size: random.Intn(100), At: random.Intn(100), Wide: random.Intn(2) == 1}
		e.Count = random.Intn(1 << random.Intn(17) % 65535)
		if e.Wide {
			e.Count = random.Intn(1<<random.Intn(41) + 1)
		}
		note := make([]byte, random.Intn(60))
		random.Read(note)
		e.Note = string(note)
		ahead := make([]byte, e.Size+e.At)
		random.Read(ahead)
		s := string(ahead) + Print(e)
		f, is := Find(s)
		if !Right(e) || !is || f != e {
			t.Fatalf("%s: %s %v", tell(e), tell(f), is)
		}
		if Print(f) != s[len(ahead):] {
			t.Fatalf("%s is written otherwise again", tell(f))
		}
	}
}

// All that is found may be written, and is what was read.
func TestWhatIsFoundIsThere(t *testing.T) {
	random := rand.New(rand.NewSource(154))
	all := near()
	for range 50000 {
		e := all[random.Intn(len(all))]
		b := []byte(whole(e))
		b[random.Intn(len(b))] ^= byte(random.Intn(256))
		s := string(b)
		if f, is := Find(s); is && (!Right(f) || s[f.Size+f.At:] != Print(f)) {
			t.Fatalf("%s of %s", tell(f), short(s))
		}
	}
}

// Each field is in the bytes: ends that differ are written otherwise.
func TestEachFieldIsWritten(t *testing.T) {
	for _, e := range samples() {
		s := Print(e)
		for place := range 3 {
			for bit := range 62 {
				f := with(e, place, *numbers(&e)[place]^1<<bit)
				if Right(f) && Print(f) == s {
					t.Errorf("%s and %s are written alike", tell(e), tell(f))
				}
			}
		}
		f := e
		f.Wide = !e.Wide
		if Print(f) == s {
			t.Errorf("%s is written alike, Wide or not", tell(e))
		}
		f = e
		f.Note += "\x00"
		if Print(f) == s {
			t.Errorf("%s is written alike with a longer comment", tell(e))
		}
	}
}

// Go's own reader and writer of such archives.

// goArchive is an archive with so many empty entries, as Go writes it.
func goArchive(t *testing.T, count int, note string, offset int64) string {
	t.Helper()
	var b bytes.Buffer
	w := zip.NewWriter(&b)
	if offset > 0 {
		w.SetOffset(offset)
	}
	for i := range count {
		if _, err := w.CreateRaw(&zip.FileHeader{Name: fmt.Sprint(i)}); err != nil {
			t.Fatal(err)
		}
	}
	if err := w.SetComment(note); err != nil {
		t.Fatal(err)
	}
	if err := w.Close(); err != nil {
		t.Fatal(err)
	}
	return b.String()
}

// full is an end as Go writes it, but for the numbers' own fields: Go fills only those that it must, where there are 64-bit records.
func full(end string) string {
	own := strings.LastIndex(end, "PK\x05\x06")
	if own == 0 {
		return end
	}
	return changed(end, own+count1At, strings.Repeat("\xff", 12))
}

func TestGoWritesThem(t *testing.T) {
	for _, count := range []int{0, 1, 2, 300, 65534, 65535, 65536, 70000} {
		for _, note := range []string{"", "a note"} {
			s := goArchive(t, count, note, 0)
			at := 0
			for i := range count {
				at += 30 + len(fmt.Sprint(i))
			}
			size := at + 16*count
			end := full(s[size+at:])
			e, is := Find(s[:size+at] + end)
			if asked := (api.End{Count: count, Size: size, At: at, Note: note, Wide: count >= 65535}); !is || e != asked {
				t.Fatalf("Find of what Go wrote: %s %v, asked for %s", tell(e), is, tell(asked))
			}
			if Print(e) != end {
				t.Errorf("Go wrote %x", end)
			}
		}
	}
}

// Far behind what was there: the bytes ahead aren't there, but the end's are as they were to be.
func TestGoWritesFarOnes(t *testing.T) {
	for _, offset := range []int64{1 << 31, 1<<32 - 200, 1<<32 - 80, 1<<32 - 1, 1 << 32, 1<<32 + 1, 1 << 40, 1 << 60} {
		s := goArchive(t, 2, "far", offset)
		end := strings.LastIndex(s, "PK\x05\x06")
		at := int(offset) + 2*31
		wide := at >= 1<<32-1
		size := end - 2*31
		if wide {
			size -= 76
		}
		if p := Print(api.End{Count: 2, Size: size, At: at, Note: "far", Wide: wide}); p != full(s[2*31+size:]) {
			t.Errorf("behind %d: %x, Go wrote %x", offset, p, s[2*31+size:])
		}
	}
}

func TestGoReadsThem(t *testing.T) {
	for _, count := range []int{0, 1, 5, 300} {
		plain, is := Find(goArchive(t, count, "", 0))
		if !is {
			t.Fatal("there is none")
		}
		s := goArchive(t, count, "", 0)[:plain.Size+plain.At]
		for _, wide := range []bool{false, true} {
			for _, note := range []string{"", "n", strings.Repeat("note ", 13107)} {
				e := plain
				e.Wide, e.Note = wide, note
				whole := s + Print(e)
				r, err := zip.NewReader(strings.NewReader(whole), int64(len(whole)))
				if err != nil {
					t.Fatalf("%s: %v", tell(e), err)
				}
				if r.Comment != note || len(r.File) != count {
					t.Errorf("%s: Go read %d entries, %q", tell(e), len(r.File), r.Comment)
				}
				for i, f := range r.File {
					c, err := f.Open()
					if err != nil {
						t.Fatal(err)
					}
					if data, err := io.ReadAll(c); err != nil || len(data) != 0 || f.Name != fmt.Sprint(i) {
						t.Errorf("entry %d: %s %q %v", i, f.Name, data, err)
					}
				}
			}
		}
	}
}

// P1.

// Ends that may not be written: nothing is asked of their bytes, but Print ends.
func TestEndsThatMayNotBe(t *testing.T) {
	far := []int{math.MinInt, math.MaxInt, -1, 0, 1, 1<<61 + 1, 65535, 1 << 16, -1 << 32}
	for _, wide := range []bool{false, true} {
		for _, count := range far {
			for _, size := range far {
				for _, at := range far {
					for _, n := range []int{0, 65536} {
						e := api.End{Count: count, Size: size, At: at, Wide: wide, Note: strings.Repeat("n", n)}
						s := Print(e)
						holdRight(t, e, saidRight(e))
						if f, is := Find(s); is && (s[f.Size+f.At:] != Print(f) || !Right(f)) {
							t.Errorf("Find of %s: %s", short(s), tell(f))
						}
					}
				}
			}
		}
	}
}

func TestBytesOfChance(t *testing.T) {
	random := rand.New(rand.NewSource(151))
	pieces := []string{"PK\x05\x06", "PK\x06\x06", "PK\x06\x07", noughts, "\xff\xff\xff\xff", "\x00\x00", "\xff\xff", "\x2c", "\x2d\x00", "\x01\x00\x00\x00", saidPrint(api.End{}), saidPrint(api.End{Wide: true}), saidPrint(api.End{At: 22}), saidPrint(api.End{Size: 98, Wide: true})}
	found := 0
	for range 100000 {
		var b strings.Builder
		for range random.Intn(12) {
			if random.Intn(4) == 0 {
				b.WriteByte(byte(random.Intn(256)))
			} else {
				b.WriteString(pieces[random.Intn(len(pieces))])
			}
		}
		if holdFind(t, b.String()) {
			found++
		}
	}
	if found < 1000 {
		t.Errorf("only %d are ends", found)
	}
}

func TestNothingIsKeptBetweenCalls(t *testing.T) {
	type answer struct {
		s, b  string
		e     api.End
		is, r bool
	}
	ask := func() []answer {
		var out []answer
		for _, e := range near() {
			s := whole(e)
			f, is := Find(s)
			out = append(out, answer{s: Print(e), b: s, e: f, is: is, r: Right(e)})
			f, is = Find(s[1:])
			out = append(out, answer{e: f, is: is, r: Right(with(e, 1, -1))})
		}
		return out
	}
	first := ask()
	var group sync.WaitGroup
	for range 8 {
		group.Go(func() {
			for range 20 {
				for i, x := range ask() {
					if x != first[i] {
						t.Errorf("%d: another answer", i)
					}
				}
			}
		})
	}
	group.Wait()
}

func FuzzEnder(f *testing.F) {
	for _, e := range samples() {
		f.Add(Print(e), e.Count, e.Size, e.At, e.Note, e.Wide)
		if e.Size+e.At < 1000 {
			f.Add(whole(e), e.Count, e.Size, e.At, e.Note, e.Wide)
		}
	}
	f.Add("", -1, math.MinInt, math.MaxInt, "", false)
	f.Fuzz(func(t *testing.T, s string, count, size, at int, note string, wide bool) {
		holdFind(t, s)
		e := api.End{Count: count, Size: size, At: at, Note: note, Wide: wide}
		holdRight(t, e, saidRight(e))
		p := Print(e)
		if !Right(e) {
			return
		}
		holdPrint(t, e)
		if at < 1000 && size < 1000 {
			if !holdFind(t, s[:min(len(s), at+size)]+strings.Repeat("f", max(0, at+size-len(s)))+p) {
				t.Errorf("%s isn't found", tell(e))
			}
		}
	})
}
