package record

import (
	"archive/zip"
	"bytes"
	"fmt"
	"hash/crc32"
	"io"
	"math"
	"math/rand"
	"strings"
	"sync"
	"testing"
	"time"

	"stevedore/api"
	"stevedore/field"
)

// ordinary is a record whose bytes are all different.
func ordinary() api.Record {
	return api.Record{Name: "ab/c", Note: "fine", Flags: 0x0801, Method: 0x0302, Date: 0x5d73, Clock: 0x40d7, Sum: 0xcbf43926, Size: 0x11121314, Packed: 0x21222324, At: 0x31323334}
}

// kinds is a record with and without the flag 8, Wide and not.
func kinds(r api.Record) []api.Record {
	var out []api.Record
	for _, flag := range []int{0, 8} {
		for _, wide := range []bool{false, true} {
			r.Flags, r.Wide = r.Flags&^8|flag, wide
			out = append(out, r)
		}
	}
	return out
}

// wideOf is a record that is Wide, with the flag 8 or without it.
func wideOf(r api.Record, flag bool) api.Record {
	if flag {
		return kinds(r)[3]
	}
	return kinds(r)[1]
}

// samples is records that may be written, of all kinds.
func samples() []api.Record {
	var out []api.Record
	for _, r := range []api.Record{
		ordinary(),
		{},
		{Name: "a"},
		{Note: "n"},
		{Name: "a", Note: "n", Method: 8, Date: 33, Sum: 7, Size: 5, Packed: 4, At: 9},
		{Name: "PK\x01\x02", Note: "PK\x01\x02\x14\x00\x14\x00", Flags: 65527, Method: 65535, Date: 65535, Clock: 65535, Sum: 1<<32 - 1, Size: 1<<32 - 2, Packed: 1<<32 - 2, At: 1<<32 - 2},
		{Name: "\x01\x00\x18\x00\xff\xff\xff\xff", Note: "\x01\x00\x18\x00" + strings.Repeat("\x00", 24)},
		{Name: strings.Repeat("\x00", 300), Note: strings.Repeat("\xff", 257)},
	} {
		out = append(out, kinds(r)...)
	}
	for _, r := range []api.Record{
		{Name: "far", Size: 1<<62 - 1, Packed: 1<<62 - 1, At: 1<<62 - 1},
		{Name: "w", Note: "x", Size: 1<<32 - 1, Packed: 1 << 32, At: 0x0102030405060708},
	} {
		out = append(out, wideOf(r, false), wideOf(r, true))
	}
	return out
}

// tell tells a record for a message.
func tell(r api.Record) string {
	if len(r.Name) > 40 {
		r.Name = fmt.Sprintf("%.40s..(%d)", r.Name, len(r.Name))
	}
	if len(r.Note) > 40 {
		r.Note = fmt.Sprintf("%.40s..(%d)", r.Note, len(r.Note))
	}
	return fmt.Sprintf("%+q", fmt.Sprintf("%+v", r))
}

// short tells bytes for a message.
func short(s string) string {
	if len(s) > 120 {
		return fmt.Sprintf("%x..(%d)", s[:120], len(s))
	}
	return fmt.Sprintf("%x", s)
}

// holdRight holds Right against the chapter's words.
func holdRight(t *testing.T, r api.Record, asked bool) {
	t.Helper()
	if Right(r) != asked || saidRight(r) != asked {
		t.Errorf("Right(%s): %v, asked for %v", tell(r), Right(r), asked)
	}
}

// holdWritten holds all that is written of a record that may be, against the chapter's words.
func holdWritten(t *testing.T, r api.Record) {
	t.Helper()
	holdRight(t, r, true)
	for _, x := range []struct{ what, got, asked string }{
		{"Local", Local(r), saidLocal(r)},
		{"Tail", Tail(r), saidTail(r)},
		{"Central", Central(r), saidCentral(r)},
	} {
		if x.got != x.asked {
			t.Errorf("%s of %s: %s, asked for %s", x.what, tell(r), short(x.got), short(x.asked))
		}
	}
}

// holdRead holds ReadCentral at a place against the chapter's words, and tells whether a record comes there.
func holdRead(t *testing.T, s string, at int) bool {
	t.Helper()
	asked, n, is := saidRead(s, at)
	c := &field.Cursor{S: s, At: at}
	r, got := ReadCentral(c)
	if r != asked || got != is || c.Bad == is || c.S != s {
		t.Errorf("ReadCentral of %s at %d: %s %v, Bad %v; asked for %s %v", short(s), at, tell(r), got, c.Bad, tell(asked), is)
	}
	if is && c.At != at+n {
		t.Errorf("ReadCentral of %s at %d goes on at %d, not %d", short(s), at, c.At, at+n)
	}
	return is
}

// holdReads holds that just this record comes, and that c goes on behind it.
func holdReads(t *testing.T, s string, at int, asked api.Record) {
	t.Helper()
	c := &field.Cursor{S: s, At: at}
	if r, is := ReadCentral(c); r != asked || !is || c.Bad || c.At != at+len(saidCentral(asked)) {
		t.Errorf("ReadCentral of %s at %d: %s %v, at %d, Bad %v; asked for %s", short(s), at, tell(r), is, c.At, c.Bad, tell(asked))
	}
	if !holdRead(t, s, at) {
		t.Errorf("the chapter has no record at %d of %s", at, short(s))
	}
}

// holdNone holds that no record comes.
func holdNone(t *testing.T, s string, at int) {
	t.Helper()
	c := &field.Cursor{S: s, At: at}
	if r, is := ReadCentral(c); r != (api.Record{}) || is || !c.Bad || c.S != s {
		t.Errorf("ReadCentral of %s at %d: %s %v, Bad %v; asked for none", short(s), at, tell(r), is, c.Bad)
	}
	if holdRead(t, s, at) {
		t.Errorf("the chapter has a record at %d of %s", at, short(s))
	}
}

// holdLocal holds whether a record's local header comes.
func holdLocal(t *testing.T, s string, at int, r api.Record, asked bool) {
	t.Helper()
	header := saidLocal(r)
	if said := at >= 0 && at <= len(s) && strings.HasPrefix(s[at:], header); said != asked {
		t.Errorf("the chapter says %v of %s at %d and %s", said, short(s), at, tell(r))
	}
	c := &field.Cursor{S: s, At: at}
	if is := ReadLocal(c, r); is != asked || c.Bad == asked || c.S != s {
		t.Errorf("ReadLocal of %s at %d and %s: %v, Bad %v; asked for %v", short(s), at, tell(r), is, c.Bad, asked)
	}
	if asked && c.At != at+len(header) {
		t.Errorf("ReadLocal of %s at %d and %s goes on at %d", short(s), at, tell(r), c.At)
	}
}

// changed is a text with other bytes from a place on.
func changed(s string, at int, with string) string {
	return s[:at] + with + s[at+len(with):]
}

// low is a number's lowest bytes.
func low(size, n int) string {
	var b []byte
	for i := range size {
		b = append(b, byte(n>>(8*i)))
	}
	return string(b)
}

// Ordinary inputs.

func TestExample(t *testing.T) {
	local := "PK\x03\x04" + "\x14\x00" + strings.Repeat("\x00", 20) + "\x01\x00" + "\x00\x00" + "a"
	if s := Local(api.Record{Name: "a"}); s != local || len(s) != 31 {
		t.Errorf("%x", s)
	}
	if s := Tail(api.Record{Name: "a"}); s != "" {
		t.Errorf("%x", s)
	}
	if s := Central(api.Record{Name: "a"}); s != "PK\x01\x02"+"\x14\x00\x14\x00"+strings.Repeat("\x00", 20)+"\x01\x00"+strings.Repeat("\x00", 16)+"a" || len(s) != 47 {
		t.Errorf("%x", s)
	}
	holdRight(t, api.Record{}, true)
	holdRight(t, api.Record{Sum: -1}, false)
	holdReads(t, Central(api.Record{Name: "a"}), 0, api.Record{Name: "a"})
	holdLocal(t, local, 0, api.Record{Name: "a"}, true)
	holdLocal(t, local, 0, api.Record{Name: "b"}, false)
}

// The pieces that the ordinary record's bytes are put together of.
const (
	common16  = "\x02\x03" + "\xd7\x40" + "\x73\x5d"
	theSum    = "\x26\x39\xf4\xcb"
	thePacked = "\x24\x23\x22\x21"
	theSize   = "\x14\x13\x12\x11"
	thePlace  = "\x34\x33\x32\x31"
	full      = "\xff\xff\xff\xff"
	noughts   = "\x00\x00\x00\x00"
)

func TestWrittenOutPlain(t *testing.T) {
	r := kinds(ordinary())[0]
	if s := Local(r); s != "PK\x03\x04"+"\x14\x00"+"\x01\x08"+common16+theSum+thePacked+theSize+"\x04\x00"+"\x00\x00"+"ab/c" {
		t.Errorf("%x", s)
	}
	if s := Tail(r); s != "" {
		t.Errorf("%x", s)
	}
	if s := Central(r); s != "PK\x01\x02"+"\x14\x00"+"\x14\x00"+"\x01\x08"+common16+theSum+thePacked+theSize+"\x04\x00"+"\x00\x00"+"\x04\x00"+noughts+noughts+thePlace+"ab/c"+"fine" {
		t.Errorf("%x", s)
	}
}

func TestWrittenOutWide(t *testing.T) {
	r := kinds(ordinary())[1]
	if s := Local(r); s != "PK\x03\x04"+"\x2d\x00"+"\x01\x08"+common16+theSum+full+full+"\x04\x00"+"\x14\x00"+"ab/c"+"\x01\x00\x10\x00"+theSize+noughts+thePacked+noughts {
		t.Errorf("%x", s)
	}
	if s := Tail(r); s != "" {
		t.Errorf("%x", s)
	}
	if s := Central(r); s != "PK\x01\x02"+"\x2d\x00"+"\x2d\x00"+"\x01\x08"+common16+theSum+full+full+"\x04\x00"+"\x1c\x00"+"\x04\x00"+noughts+noughts+full+"ab/c"+"\x01\x00\x18\x00"+theSize+noughts+thePacked+noughts+thePlace+noughts+"fine" {
		t.Errorf("%x", s)
	}
}

func TestWrittenOutFlag8(t *testing.T) {
	r := kinds(ordinary())[2]
	if s := Local(r); s != "PK\x03\x04"+"\x14\x00"+"\x09\x08"+common16+noughts+noughts+noughts+"\x04\x00"+"\x00\x00"+"ab/c" {
		t.Errorf("%x", s)
	}
	if s := Tail(r); s != "PK\x07\x08"+theSum+thePacked+theSize {
		t.Errorf("%x", s)
	}
	if s := Central(r); s != "PK\x01\x02"+"\x14\x00"+"\x14\x00"+"\x09\x08"+common16+theSum+thePacked+theSize+"\x04\x00"+"\x00\x00"+"\x04\x00"+noughts+noughts+thePlace+"ab/c"+"fine" {
		t.Errorf("%x", s)
	}
}

// Of one with both the sizes are 0, and as those of one that is Wide they stand in the extra field.
func TestWrittenOutBoth(t *testing.T) {
	r := kinds(ordinary())[3]
	if s := Local(r); s != "PK\x03\x04"+"\x2d\x00"+"\x09\x08"+common16+noughts+full+full+"\x04\x00"+"\x14\x00"+"ab/c"+"\x01\x00\x10\x00"+noughts+noughts+noughts+noughts {
		t.Errorf("%x", s)
	}
	if s := Tail(r); s != "PK\x07\x08"+theSum+thePacked+noughts+theSize+noughts {
		t.Errorf("%x", s)
	}
	if s := Central(r); s != "PK\x01\x02"+"\x2d\x00"+"\x2d\x00"+"\x09\x08"+common16+theSum+full+full+"\x04\x00"+"\x1c\x00"+"\x04\x00"+noughts+noughts+full+"ab/c"+"\x01\x00\x18\x00"+theSize+noughts+thePacked+noughts+thePlace+noughts+"fine" {
		t.Errorf("%x", s)
	}
}

// P14.1: Right, at the fields' edges.

// fields is pointers to a record's numbers: first those up to 65535, then the sum, then those that may be wide.
func fields(r *api.Record) []*int {
	return []*int{&r.Flags, &r.Method, &r.Date, &r.Clock, &r.Sum, &r.Size, &r.Packed, &r.At}
}

// mostOf is the greatest number that a field may have.
func mostOf(place int, wide bool) int {
	switch {
	case place < 4:
		return 65535
	case place == 4:
		return 4294967295
	case wide:
		return 4611686018427387903
	}
	return 4294967294
}

// with is a record with another number in one of its fields.
func with(r api.Record, place, n int) api.Record {
	*fields(&r)[place] = n
	return r
}

func TestRightAtEachEdge(t *testing.T) {
	for _, base := range samples() {
		for place := range 8 {
			most := mostOf(place, base.Wide)
			for _, n := range []int{0, 1, most - 1, most} {
				holdRight(t, with(base, place, n), true)
			}
			for _, n := range []int{-1, -2, most + 1, most + 2, math.MinInt, math.MinInt + 1, math.MaxInt, math.MaxInt - 1, math.MinInt32, 1 << 62, -1 << 62, -1 << 32, -1<<32 + 1} {
				holdRight(t, with(base, place, n), false)
			}
			for _, n := range []int{65535, 65536, 1<<31 - 1, 1 << 31, 1<<32 - 2, 1<<32 - 1, 1 << 32, 1<<32 + 1, 1 << 33, 1<<53 + 1, 1<<62 - 1} {
				holdRight(t, with(base, place, n), n <= most)
			}
		}
	}
}

func TestRightOfLongTexts(t *testing.T) {
	long := strings.Repeat("n", 65537)
	for _, base := range samples() {
		for _, name := range []int{0, 1, 65534, 65535, 65536, 65537} {
			for _, note := range []int{0, 1, 65534, 65535, 65536, 65537} {
				base.Name, base.Note = long[:name], long[:note]
				holdRight(t, base, name <= 65535 && note <= 65535)
			}
		}
	}
	holdRight(t, api.Record{Name: strings.Repeat("n", 1<<17)}, false)
	holdRight(t, api.Record{Note: strings.Repeat("n", 1<<17)}, false)
	// Names and notes may be any bytes.
	holdRight(t, api.Record{Name: "\x00\xff\xfe/..\\", Note: "\n\x80\xc0"}, true)
}

// All rows of fields' edges.
func TestRightAtEdgesTogether(t *testing.T) {
	long := strings.Repeat("n", 65536)
	var let int
	for _, wide := range []bool{false, true} {
		for row := range 1 << 16 {
			r := api.Record{Wide: wide}
			asked := true
			for place := range 8 {
				most := mostOf(place, wide)
				pick := row >> (2 * place) & 3
				*fields(&r)[place] = [4]int{0, most, -1, most + 1}[pick]
				asked = asked && pick < 2
			}
			holdRight(t, r, asked)
			if asked {
				let++
			}
			r.Name = long
			holdRight(t, r, false)
			r.Name, r.Note = long[1:], long
			holdRight(t, r, false)
			r.Note = long[1:]
			holdRight(t, r, asked)
		}
	}
	if let != 2<<8 {
		t.Errorf("%d are let in", let)
	}
}

func TestRightFarOut(t *testing.T) {
	far := []int{math.MinInt, math.MaxInt, math.MinInt + 1, math.MaxInt - 1, 1 << 62, -1 << 62, 1 << 32, -1 << 32, 1 << 16, -1 << 16}
	for _, base := range kinds(api.Record{}) {
		for place := range 8 {
			for _, n := range far {
				r := with(base, place, n)
				holdRight(t, r, n > 0 && n <= mostOf(place, base.Wide))
				for other := range 8 {
					for _, k := range far {
						r := with(r, other, k)
						holdRight(t, r, saidRight(r))
					}
				}
			}
		}
		for _, n := range far {
			r := base
			for place := range 8 {
				r = with(r, place, n)
			}
			holdRight(t, r, false)
		}
	}
}

// P14.1: what is written.

func TestWrittenSamples(t *testing.T) {
	for _, r := range samples() {
		holdWritten(t, r)
	}
}

func TestWrittenAtEachEdge(t *testing.T) {
	for _, base := range samples() {
		for place := range 8 {
			most := mostOf(place, base.Wide)
			for _, n := range []int{0, 1, 255, 256, 65535, most / 2, most - 1, most} {
				holdWritten(t, with(base, place, n))
			}
			// A number of which each bit is alone.
			for bit := range 62 {
				if 1<<bit <= most {
					holdWritten(t, with(base, place, 1<<bit))
				}
			}
		}
	}
}

func TestWrittenLongTexts(t *testing.T) {
	long := strings.Repeat("long ", 13107)
	for _, base := range kinds(ordinary()) {
		for _, name := range []int{0, 1, 255, 256, 65534, 65535} {
			for _, note := range []int{0, 1, 255, 256, 65534, 65535} {
				base.Name, base.Note = long[:name], long[:note]
				holdWritten(t, base)
				holdReads(t, Central(base)+long, 0, base)
				holdLocal(t, Local(base)+long, 0, base, true)
			}
		}
	}
}

func TestLengths(t *testing.T) {
	for _, r := range samples() {
		local, tail, central := 30+len(r.Name), 0, 46+len(r.Name)+len(r.Note)
		if r.Flags&8 != 0 {
			tail = 16
		}
		if r.Wide {
			local, central, tail = local+20, central+28, tail*3/2
		}
		if len(Local(r)) != local || len(Tail(r)) != tail || len(Central(r)) != central {
			t.Errorf("%s: %d, %d and %d bytes, asked for %d, %d and %d", tell(r), len(Local(r)), len(Tail(r)), len(Central(r)), local, tail, central)
		}
	}
}

// The flag 8 is one bit of all flags; no other one has to do with it.
func TestAllFlags(t *testing.T) {
	for flags := range 65536 {
		r := ordinary()
		r.Flags = flags
		r.Wide = flags%3 == 0
		if (Tail(r) != "") != (flags>>3&1 == 1) {
			t.Fatalf("flags %x: %x", flags, Tail(r))
		}
		holdWritten(t, r)
		holdReads(t, Central(r), 0, r)
	}
}

// P14.2: ReadCentral of what is written.

func TestReadsWhatIsWritten(t *testing.T) {
	all := samples()
	for i, r := range all {
		s := Central(r)
		for _, behind := range []string{"", "\x00", "\xff", "bytes", s, Central(all[(i+1)%len(all)]), Local(r), strings.Repeat("\x00", 100), "\x01\x00\x18\x00" + strings.Repeat("\x00", 24)} {
			holdReads(t, s+behind, 0, r)
			for _, ahead := range []string{"x", "PK\x01\x02", s, strings.Repeat("\xff", 70)} {
				holdReads(t, ahead+s+behind, len(ahead), r)
			}
		}
	}
}

func TestReadsEachEdge(t *testing.T) {
	for _, base := range samples() {
		for place := range 8 {
			most := mostOf(place, base.Wide)
			for _, n := range []int{0, 1, 20, 45, 65535, most - 1, most} {
				r := with(base, place, n)
				holdReads(t, saidCentral(r), 0, r)
				holdLocal(t, saidLocal(r), 0, r, true)
			}
		}
	}
}

// P14.2: ReadCentral of bytes with one change.

// behinds is what may stand behind a record's bytes, so that lengths that are changed have bytes to go on with.
func behinds() []string {
	return []string{"", "z", Central(ordinary()), strings.Repeat("\x00", 1000)}
}

// few is the samples with few bytes.
func few() []api.Record {
	var out []api.Record
	for _, r := range samples() {
		if len(r.Name)+len(r.Note) < 50 {
			out = append(out, r)
		}
	}
	return out
}

func TestEachByteChanged(t *testing.T) {
	for _, r := range few() {
		s := Central(r)
		for _, behind := range behinds() {
			for at := range len(s) {
				for add := 1; add < 256; add++ {
					holdRead(t, changed(s, at, string([]byte{s[at] + byte(add)}))+behind, 0)
				}
			}
		}
	}
}

// Bytes that have but one way to be.
func TestBytesThatMayNotBeChanged(t *testing.T) {
	for _, r := range few() {
		s := Central(r)
		fixed := []int{0, 1, 2, 3, madeAt, madeAt + 1, versionAt, versionAt + 1, extraAt, extraAt + 1}
		for i := range 8 {
			fixed = append(fixed, noughtsAt+i)
		}
		if r.Wide {
			for i := range 4 {
				fixed = append(fixed, packedAt+i, sizeAt+i, placeAt+i, nameAt+len(r.Name)+i)
			}
		}
		for _, behind := range behinds() {
			for _, at := range fixed {
				for add := 1; add < 256; add++ {
					holdNone(t, changed(s, at, string([]byte{s[at] + byte(add)}))+behind, 0)
				}
			}
		}
	}
}

// Bytes of a number, a name or a note: they are another record's.
func TestBytesThatMayBeChanged(t *testing.T) {
	for _, r := range kinds(ordinary()) {
		s := Central(r)
		free := []int{}
		for at := flagsAt; at < packedAt; at++ {
			free = append(free, at)
		}
		for i := range 4 {
			free = append(free, nameAt+i, len(s)-4+i)
		}
		if !r.Wide {
			for i := range 4 {
				free = append(free, packedAt+i, sizeAt+i, placeAt+i)
			}
		} else {
			// But for the highest byte of each number.
			for i := range 7 {
				free = append(free, nameAt+8+i, nameAt+16+i, nameAt+24+i)
			}
		}
		for _, at := range free {
			for add := 1; add < 256; add++ {
				b := changed(s, at, string([]byte{s[at] + byte(add)}))
				x, is := ReadCentral(&field.Cursor{S: b})
				if !is || x == r || !Right(x) || Central(x) != b {
					t.Errorf("byte %d of %s, %d more: %s %v", at, tell(r), add, tell(x), is)
				}
				holdRead(t, b, 0)
			}
		}
	}
}

func TestVersions(t *testing.T) {
	for _, r := range kinds(ordinary()) {
		s := Central(r)
		for _, made := range []int{0, 10, 20, 21, 44, 45, 46, 63, 20 + 3<<8, 45 + 3<<8, 65535} {
			for _, needed := range []int{0, 10, 20, 21, 44, 45, 46, 63, 20 + 3<<8, 45 + 3<<8, 65535} {
				b := changed(s, madeAt, low(2, made)+low(2, needed))
				own := 20
				if r.Wide {
					own = 45
				}
				if made == own && needed == own {
					holdReads(t, b, 0, r)
					continue
				}
				for _, behind := range behinds() {
					holdNone(t, b+behind, 0)
				}
			}
		}
	}
}

// The mark of another kind of bytes, and of none.
func TestMarks(t *testing.T) {
	for _, r := range samples() {
		s := Central(r)
		for _, mark := range []string{"PK\x03\x04", "PK\x07\x08", "PK\x05\x06", "PK\x06\x06", "PK\x06\x07", "PK\x02\x01", "KP\x01\x02", "pk\x01\x02", "\x02\x01KP", noughts, full} {
			holdNone(t, changed(s, 0, mark), 0)
		}
		holdNone(t, Local(r), 0)
		holdNone(t, Local(r)+strings.Repeat("\x00", 100), 0)
		holdNone(t, "x"+s, 0)
		holdNone(t, s[1:]+"x", 0)
		holdNone(t, s, 1)
	}
}

// 2^32 - 1 in a field says that the number stands elsewhere.
func TestFullFieldsWithoutWide(t *testing.T) {
	for _, r := range []api.Record{kinds(ordinary())[0], kinds(ordinary())[2], {Size: 1<<32 - 2, Packed: 1<<32 - 2, At: 1<<32 - 2}} {
		s := Central(r)
		for row := 1; row < 8; row++ {
			b := s
			for i, at := range []int{packedAt, sizeAt, placeAt} {
				if row>>i&1 == 1 {
					b = changed(b, at, full)
				}
			}
			for _, behind := range behinds() {
				holdNone(t, b+behind, 0)
			}
		}
		for _, at := range []int{packedAt, sizeAt, placeAt} {
			if !holdRead(t, changed(s, at, "\xfe\xff\xff\xff"), 0) {
				t.Errorf("2^32 - 2 at %d isn't let in", at)
			}
		}
		// The sum may be 2^32 - 1.
		if !holdRead(t, changed(s, sumAt, full), 0) {
			t.Errorf("a sum of 2^32 - 1 isn't let in")
		}
	}
}

// Of one that is Wide no number stands in its own field, not even where it is the same.
func TestOwnFieldsOfWide(t *testing.T) {
	for _, base := range []api.Record{ordinary(), {}, {Size: 1<<32 - 2, Packed: 1<<32 - 2, At: 1<<32 - 2}} {
		for _, flag := range []bool{false, true} {
			r := wideOf(base, flag)
			s := Central(r)
			for row := 1; row < 8; row++ {
				for _, own := range [][3]int{{r.Packed, r.Size, r.At}, {0, 0, 0}, {1<<32 - 2, 1<<32 - 2, 1<<32 - 2}} {
					b := s
					for i, at := range []int{packedAt, sizeAt, placeAt} {
						if row>>i&1 == 1 {
							b = changed(b, at, low(4, own[i]))
						}
					}
					for _, behind := range behinds() {
						holdNone(t, b+behind, 0)
					}
				}
			}
		}
	}
}

// centralOf puts a central record together whose extra field may be any.
func centralOf(version int, r api.Record, packed, size, at string, extra string) string {
	b := "PK\x01\x02" + low(2, version) + low(2, version) + low(2, r.Flags) + low(2, r.Method) + low(2, r.Clock) + low(2, r.Date) + low(4, r.Sum)
	return b + packed + size + low(2, len(r.Name)) + low(2, len(extra)) + low(2, len(r.Note)) + strings.Repeat("\x00", 8) + at + r.Name + extra + r.Note
}

func TestExtraFields(t *testing.T) {
	r := wideOf(ordinary(), false)
	whole := "\x01\x00\x18\x00" + low(8, r.Size) + low(8, r.Packed) + low(8, r.At)
	holdReads(t, centralOf(45, r, full, full, full, whole), 0, r)
	plain := kinds(ordinary())[0]
	holdReads(t, centralOf(20, plain, thePacked, theSize, thePlace, ""), 0, plain)
	for _, extra := range []string{
		"", "\x01\x00", "\x01\x00\x00\x00", whole[:4], whole[:12], whole[:20], whole[:27],
		"\x01\x00\x08\x00" + whole[4:12], "\x01\x00\x10\x00" + whole[4:20],
		whole + "\x00", whole + noughts, whole + whole, "\x01\x00\x1c\x00" + whole[4:] + noughts,
		"\x01\x00\x10\x00" + whole[4:], "\x01\x00\x17\x00" + whole[4:], "\x01\x00\x19\x00" + whole[4:], "\x01\x00\x1c\x00" + whole[4:], "\x01\x00\x00\x00" + whole[4:], "\x01\x00\x18\x01" + whole[4:],
		"\x00\x00\x18\x00" + whole[4:], "\x02\x00\x18\x00" + whole[4:], "\x01\x01\x18\x00" + whole[4:], "\x00\x01\x18\x00" + whole[4:], "\x18\x00\x01\x00" + whole[4:],
		"\x55\x54\x05\x00\x01\x00\x00\x00\x00" + whole, whole + "\x55\x54\x05\x00\x01\x00\x00\x00\x00", "\x55\x54\x05\x00\x01\x00\x00\x00\x00", "\x55\x54\x18\x00" + whole[4:],
	} {
		for _, behind := range behinds() {
			for _, version := range []int{20, 45} {
				holdNone(t, centralOf(version, r, full, full, full, extra)+behind, 0)
				if version != 20 || extra != "" {
					holdNone(t, centralOf(version, r, thePacked, theSize, thePlace, extra)+behind, 0)
				}
				for row := 1; row < 7; row++ {
					own := [3]string{thePacked, theSize, thePlace}
					for i := range own {
						if row>>i&1 == 1 {
							own[i] = full
						}
					}
					holdNone(t, centralOf(version, r, own[0], own[1], own[2], extra)+behind, 0)
				}
			}
		}
	}
	// What one that isn't Wide has behind its name is its note, whatever it looks like.
	plain.Note = whole
	holdReads(t, centralOf(20, plain, thePacked, theSize, thePlace, "")+whole, 0, plain)
}

// The least that numbers of eight bytes may not be, and more.
func TestWideNumbers(t *testing.T) {
	for _, flag := range []bool{false, true} {
		r := wideOf(ordinary(), flag)
		s := Central(r)
		from := nameAt + len(r.Name) + 4
		for i := range 3 {
			for _, n := range []int{0, 1, 1<<32 - 2, 1<<32 - 1, 1 << 32, 1<<62 - 1} {
				asked := with(r, 5+i, n)
				holdReads(t, changed(s, from+8*i, low(8, n)), 0, asked)
			}
			for _, n := range []int{1 << 62, 1<<62 + 1, math.MaxInt, math.MinInt, math.MinInt + 1, -1, -2, -1 << 32, 1<<62 | 5, -1 << 62} {
				for _, behind := range behinds() {
					holdNone(t, changed(s, from+8*i, low(8, n))+behind, 0)
				}
			}
		}
		holdReads(t, changed(s, from, strings.Repeat("\xff\xff\xff\xff\xff\xff\xff\x3f", 3)), 0, with(with(with(r, 5, 1<<62-1), 6, 1<<62-1), 7, 1<<62-1))
		holdNone(t, changed(s, from, strings.Repeat("\xff", 24)), 0)
	}
}

// Noughts that aren't, by bits.
func TestNoughts(t *testing.T) {
	for _, r := range samples() {
		s := Central(r)
		for i := range 8 {
			for bit := range 8 {
				holdNone(t, changed(s, noughtsAt+i, string([]byte{1 << bit})), 0)
			}
		}
		holdNone(t, changed(s, noughtsAt, strings.Repeat("\xff", 8)), 0)
	}
}

// Lengths that go beyond the end, up to it, and less far.
func TestLengthsOfTexts(t *testing.T) {
	for _, r := range samples() {
		s := Central(r)
		for _, at := range []int{nameLenAt, extraAt, noteLenAt} {
			own := int(s[at]) + int(s[at+1])<<8
			for _, n := range []int{0, 1, own - 1, own + 1, own + 2, own + 28, own + 255, own + 256, 256, 28, 20, 32767, 32768, 65534, 65535} {
				if n < 0 || n == own {
					continue
				}
				b := changed(s, at, low(2, n))
				if n > own || at == extraAt {
					holdNone(t, b, 0)
				}
				if at == extraAt {
					holdNone(t, b+strings.Repeat("\x00", 70000), 0)
				}
				for _, behind := range append(behinds(), strings.Repeat("\x00", 70000)) {
					holdRead(t, b+behind, 0)
				}
			}
		}
	}
	r := ordinary()
	s := Central(r)
	// A note one byte longer is there, if there is a byte behind it.
	holdNone(t, changed(s, noteLenAt, "\x05\x00"), 0)
	r.Note += "!"
	holdReads(t, changed(s, noteLenAt, "\x05\x00")+"!", 0, r)
	holdReads(t, changed(s, noteLenAt, "\x05\x00")+"!?", 0, r)
	// A name one byte longer takes the note's first byte, and the note one from behind.
	r.Name, r.Note = "ab/cf", "ine!"
	holdReads(t, changed(s, nameLenAt, "\x05\x00")+"!", 0, r)
	holdNone(t, changed(s, nameLenAt, "\x05\x00"), 0)
	// And one byte shorter.
	r.Name, r.Note = "ab/", "cfin"
	holdReads(t, changed(s, nameLenAt, "\x03\x00"), 0, r)
	// The longest texts, of one byte too few.
	b := centralOf(20, kinds(r)[0], thePacked, theSize, thePlace, "")
	holdNone(t, changed(b, nameLenAt, full[:2])[:nameAt]+strings.Repeat("n", 65534+4), 0)
	if !holdRead(t, changed(b, nameLenAt, full[:2])[:nameAt]+strings.Repeat("n", 65535+4), 0) {
		t.Errorf("a name of 65535 bytes isn't read")
	}
	holdNone(t, changed(changed(b, nameLenAt, full[:2]), noteLenAt, full[:2])[:nameAt]+strings.Repeat("n", 2*65535-1), 0)
	if !holdRead(t, changed(changed(b, nameLenAt, full[:2]), noteLenAt, full[:2])[:nameAt]+strings.Repeat("n", 2*65535), 0) {
		t.Errorf("a name and a note of 65535 bytes aren't read")
	}
}

// Bytes changed in several places.
func TestSeveralChanges(t *testing.T) {
	random := rand.New(rand.NewSource(14))
	all := few()
	let := 0
	for range 200000 {
		r := all[random.Intn(len(all))]
		b := []byte(Central(r) + behinds()[random.Intn(2)])
		for range 1 + random.Intn(3) {
			at := random.Intn(len(b))
			switch random.Intn(3) {
			case 0:
				b[at] = byte(random.Intn(256))
			case 1:
				b[at] ^= 1 << random.Intn(8)
			default:
				b[at] = "\x00\xff\x14\x2d\x1c\x01\x18"[random.Intn(7)]
			}
		}
		if holdRead(t, string(b), 0) {
			let++
		}
	}
	if let < 10000 {
		t.Errorf("only %d are records", let)
	}
}

func TestEachCut(t *testing.T) {
	for _, r := range samples() {
		s, local := Central(r), Local(r)
		for n := range s {
			holdNone(t, s[:n], 0)
			holdNone(t, "ahead"+s[:n], 5)
			holdNone(t, s, n+1)
		}
		for n := range local {
			holdLocal(t, local[:n], 0, r, false)
			holdLocal(t, "ahead"+local[:n], 5, r, false)
			holdLocal(t, local, n+1, r, false)
		}
	}
}

// A byte that is missed or too much.
func TestBytesMissedAndAdded(t *testing.T) {
	for _, r := range few() {
		s, local := Central(r), Local(r)
		for at := range len(s) {
			holdRead(t, s[:at]+s[at+1:], 0)
			holdRead(t, s[:at]+s[at+1:]+"\x00", 0)
			for _, more := range []string{"\x00", "\xff", "\x14", s[at : at+1]} {
				holdRead(t, s[:at]+more+s[at:], 0)
			}
		}
		for at := range len(local) {
			b := local[:at] + local[at+1:]
			holdLocal(t, b, 0, r, false)
			b += "\x00"
			holdLocal(t, b, 0, r, strings.HasPrefix(b, local))
		}
	}
}

// P14.2: ReadLocal.

func TestLocalComes(t *testing.T) {
	all := samples()
	for i, r := range all {
		s := Local(r)
		for _, behind := range []string{"", "\x00", "\xff", "bytes", s, Tail(r), Local(all[(i+1)%len(all)]), Central(r)} {
			holdLocal(t, s+behind, 0, r, true)
			for _, ahead := range []string{"x", "PK\x03\x04", s, strings.Repeat("\x00", 70)} {
				holdLocal(t, ahead+s+behind, len(ahead), r, true)
			}
		}
		for _, b := range []string{"", "x" + s, s[1:] + "x", Central(r), Central(r) + s, Tail(r) + s} {
			holdLocal(t, b, 0, r, b == s)
		}
	}
}

func TestEachByteOfLocalChanged(t *testing.T) {
	for _, r := range few() {
		s := Local(r)
		for _, behind := range behinds() {
			for at := range len(s) {
				for add := 1; add < 256; add++ {
					holdLocal(t, changed(s, at, string([]byte{s[at] + byte(add)}))+behind, 0, r, false)
				}
			}
		}
	}
}

// Local headers that other programs may write, but that aren't just so.
func TestOtherLocals(t *testing.T) {
	head := func(version, flags int, numbers string) string {
		return "PK\x03\x04" + low(2, version) + low(2, flags) + common16 + numbers + "\x04\x00"
	}
	plain := kinds(ordinary())
	// Sizes in a header with the flag 8, and none in one without it.
	holdLocal(t, head(20, 0x0809, theSum+thePacked+theSize)+"\x00\x00ab/c", 0, plain[2], false)
	holdLocal(t, head(20, 0x0809, noughts+thePacked+theSize)+"\x00\x00ab/c", 0, plain[2], false)
	holdLocal(t, head(20, 0x0809, theSum+noughts+noughts)+"\x00\x00ab/c", 0, plain[2], false)
	holdLocal(t, head(20, 0x0801, noughts+noughts+noughts)+"\x00\x00ab/c", 0, plain[0], false)
	holdLocal(t, head(20, 0x0801, theSum+full+full)+"\x00\x00ab/c", 0, plain[0], false)
	for _, extra := range []string{"", "\x01\x00\x10\x00" + thePacked + noughts + theSize + noughts, "\x01\x00\x10\x00" + strings.Repeat("\x00", 16), "\x01\x00\x18\x00" + theSize + noughts + thePacked + noughts + thePlace + noughts, "\x02\x00\x10\x00" + theSize + noughts + thePacked + noughts, "\x01\x00\x08\x00" + theSize + noughts + thePacked + noughts, "\x01\x00\x10\x00" + full + full + full + full} {
		holdLocal(t, head(45, 0x0801, theSum+full+full)+low(2, len(extra))+"ab/c"+extra, 0, plain[1], false)
	}
	whole := "\x01\x00\x10\x00" + theSize + noughts + thePacked + noughts
	holdLocal(t, head(45, 0x0801, theSum+full+full)+low(2, 20)+"ab/c"+whole, 0, plain[1], true)
	holdLocal(t, head(45, 0x0801, theSum+thePacked+theSize)+low(2, 20)+"ab/c"+whole, 0, plain[1], false)
	holdLocal(t, head(45, 0x0801, theSum+thePacked+theSize)+low(2, 0)+"ab/c", 0, plain[1], false)
	holdLocal(t, head(45, 0x0801, theSum+thePacked+theSize)+low(2, 0)+"ab/c", 0, plain[0], false)
	holdLocal(t, head(20, 0x0801, theSum+full+full)+low(2, 20)+"ab/c"+whole, 0, plain[1], false)
	holdLocal(t, head(45, 0x0809, noughts+full+full)+low(2, 20)+"ab/c"+whole, 0, plain[3], false)
	holdLocal(t, head(45, 0x0809, noughts+noughts+noughts)+low(2, 20)+"ab/c"+whole, 0, plain[3], false)
	holdLocal(t, head(45, 0x0809, noughts+noughts+noughts)+low(2, 20)+"ab/c\x01\x00\x10\x00"+strings.Repeat("\x00", 16), 0, plain[3], false)
	holdLocal(t, head(45, 0x0809, noughts+full+full)+low(2, 20)+"ab/c\x01\x00\x10\x00"+strings.Repeat("\x00", 16), 0, plain[3], true)
}

// Another record than was written.
func TestLocalOfAnother(t *testing.T) {
	for _, r := range samples() {
		s := Local(r)
		for place := range 8 {
			for _, n := range []int{0, 1, 7, 8, 20, 65535, mostOf(place, r.Wide)} {
				x := with(r, place, n)
				if x == r {
					continue
				}
				// At isn't in a local header, nor are sums and sizes of one with the flag 8.
				same := place == 7 || place >= 4 && r.Flags&8 != 0
				for _, behind := range behinds() {
					holdLocal(t, s+behind, 0, x, same)
				}
			}
		}
		x := r
		x.Note += "another"
		holdLocal(t, s, 0, x, true)
		for _, name := range []string{"", "b", r.Name + "b", "b" + r.Name, strings.ToUpper(r.Name)} {
			x := r
			x.Name = name
			holdLocal(t, s+"b", 0, x, name == r.Name)
		}
		for _, x := range kinds(r) {
			if Right(x) {
				holdLocal(t, s+strings.Repeat("\x00", 50), 0, x, x == r)
			}
		}
	}
	all := samples()
	for i, r := range all {
		for k, x := range all {
			holdLocal(t, Local(r), 0, x, i == k || Local(r) == saidLocal(x))
		}
	}
}

// P14.2: cursors of all sorts.

func TestCursorsThatAreBad(t *testing.T) {
	for _, r := range samples() {
		for _, s := range []string{Central(r), Local(r), "", "bytes"} {
			for _, at := range []int{0, 1, len(s), len(s) + 1, -1, math.MinInt, math.MaxInt} {
				c := &field.Cursor{S: s, At: at, Bad: true}
				if x, is := ReadCentral(c); x != (api.Record{}) || is || !c.Bad || c.S != s || c.At != at {
					t.Errorf("ReadCentral, Bad already: %s %v, at %d, Bad %v", tell(x), is, c.At, c.Bad)
				}
				c = &field.Cursor{S: s, At: at, Bad: true}
				if ReadLocal(c, r) || !c.Bad || c.S != s || c.At != at {
					t.Errorf("ReadLocal, Bad already: at %d, Bad %v", c.At, c.Bad)
				}
			}
		}
	}
}

func TestCursorsFromAllPlaces(t *testing.T) {
	for _, r := range kinds(ordinary()) {
		for _, s := range []string{Central(r), Local(r), Local(r) + Central(r) + Local(r), ""} {
			for at := -3; at <= len(s)+3; at++ {
				holdRead(t, s, at)
				holdLocal(t, s, at, r, at >= 0 && at <= len(s) && strings.HasPrefix(s[at:], saidLocal(r)))
			}
			for _, at := range []int{math.MinInt, math.MinInt + 1, math.MaxInt, math.MaxInt - 1, math.MaxInt - 46, math.MaxInt - len(s), -len(s), -1 << 32, 1 << 32, 1 << 62, -1 << 62} {
				if at == 0 {
					continue
				}
				holdNone(t, s, at)
				holdLocal(t, s, at, r, false)
			}
		}
	}
}

// One that went wrong reads nothing more, whatever comes.
func TestCursorsThatWentWrong(t *testing.T) {
	r := ordinary()
	s := Central(r) + "x" + Central(r) + Local(r)
	c := &field.Cursor{S: s}
	if x, is := ReadCentral(c); x != r || !is || c.Bad {
		t.Errorf("the first one: %s %v", tell(x), is)
	}
	for range 3 {
		if x, is := ReadCentral(c); x != (api.Record{}) || is || !c.Bad {
			t.Errorf("behind the first one: %s %v", tell(x), is)
		}
		if ReadLocal(c, r) || !c.Bad || c.Done() || c.Text(0) != "" || c.U16() != 0 {
			t.Errorf("a local header is read behind what went wrong")
		}
	}
	c = &field.Cursor{S: Local(r) + Central(r)}
	if ReadLocal(c, api.Record{Name: "another"}) || !c.Bad {
		t.Errorf("another's local header is read")
	}
	if x, is := ReadCentral(c); x != (api.Record{}) || is {
		t.Errorf("behind another's local header: %s", tell(x))
	}
}

// P14.3: records go there and back.

// some is a number of any magnitude up to most.
func some(random *rand.Rand, most int) int {
	n := int(random.Uint64()>>1) >> random.Intn(63)
	if random.Intn(4) == 0 {
		n = most - n
	}
	if n < 0 || n > most {
		return random.Intn(most) + random.Intn(2)
	}
	return n
}

// text is bytes of chance.
func text(random *rand.Rand, most int) string {
	b := make([]byte, random.Intn(most+1))
	for i := range b {
		b[i] = byte(random.Intn(256))
	}
	return string(b)
}

// chance is a record of chance that may be written.
func chance(random *rand.Rand) api.Record {
	r := api.Record{Name: text(random, 20), Note: text(random, 20), Wide: random.Intn(2) == 0}
	for place, p := range fields(&r) {
		*p = some(random, mostOf(place, r.Wide))
	}
	return r
}

func TestThereAndBack(t *testing.T) {
	random := rand.New(rand.NewSource(141))
	for range 100000 {
		r := chance(random)
		holdWritten(t, r)
		holdReads(t, Central(r), 0, r)
		holdLocal(t, Local(r), 0, r, true)
		x := chance(random)
		if x.Wide == r.Wide && x.Name != r.Name {
			holdLocal(t, Local(r), 0, x, false)
		}
	}
}

func TestOneBehindTheOther(t *testing.T) {
	random := rand.New(rand.NewSource(142))
	for round := range 200 {
		var list []api.Record
		for range round {
			list = append(list, chance(random))
		}
		if round%10 == 0 {
			list = append(list, samples()...)
		}
		var b strings.Builder
		for _, r := range list {
			b.WriteString(Local(r) + "data" + Tail(r))
		}
		for _, r := range list {
			b.WriteString(Central(r))
		}
		c := &field.Cursor{S: b.String()}
		for i, r := range list {
			if !ReadLocal(c, r) || c.Text(4) != "data" || c.Text(len(Tail(r))) != saidTail(r) {
				t.Fatalf("round %d: no local header of the %d-th one, %s", round, i, tell(r))
			}
		}
		for i, r := range list {
			if x, is := ReadCentral(c); x != r || !is {
				t.Fatalf("round %d: the %d-th one: %s %v, not %s", round, i, tell(x), is, tell(r))
			}
		}
		if !c.Done() {
			t.Fatalf("round %d: at %d of %d, Bad %v", round, c.At, len(c.S), c.Bad)
		}
	}
}

// No two records have the same bytes: what differs in one field differs in the record.
func TestEachFieldIsInTheCentralRecord(t *testing.T) {
	for _, r := range samples() {
		seen := map[string]api.Record{Central(r): r}
		hold := func(x api.Record) {
			t.Helper()
			if y, is := seen[Central(x)]; is && y != x {
				t.Errorf("%s and %s have the same bytes", tell(x), tell(y))
			}
			seen[Central(x)] = x
		}
		for place := range 8 {
			for bit := range 62 {
				if x := with(r, place, 1<<bit); Right(x) {
					hold(x)
				}
			}
		}
		for _, x := range []string{"", "a", "b", "ab", r.Name + r.Note, r.Name + "a"} {
			y := r
			y.Name = x
			hold(y)
			y = r
			y.Note = x
			hold(y)
			y.Name, y.Note = x, r.Name
			hold(y)
		}
	}
}

// P14.1 to P14.3, as Go's own library has such bytes.

// ended is an archive of what lies, central records, and an end.
func ended(lies, central string, count int) string {
	return lies + central + "PK\x05\x06" + noughts + low(2, count) + low(2, count) + low(4, len(central)) + low(4, len(lies)) + "\x00\x00"
}

// TestGoReadsThem holds what Go's own reader finds in headers and records.
func TestGoReadsThem(t *testing.T) {
	var list []api.Record
	var lies, central strings.Builder
	data := func(i int) string { return strings.Repeat("data", i) }
	for i := range 40 {
		d := data(i)
		r := kinds(api.Record{Name: fmt.Sprintf("name %d", i), Note: strings.Repeat("n", i), Flags: 2048, Date: 0x5d73 - i, Clock: 0x40d7 + i, Sum: int(crc32.ChecksumIEEE([]byte(d))), Size: len(d), Packed: len(d), At: lies.Len()})[i%4]
		list = append(list, r)
		lies.WriteString(Local(r) + d + Tail(r))
		central.WriteString(Central(r))
	}
	s := ended(lies.String(), central.String(), len(list))
	z, err := zip.NewReader(strings.NewReader(s), int64(len(s)))
	if err != nil || len(z.File) != len(list) {
		t.Fatalf("%v", err)
	}
	for i, f := range z.File {
		r := list[i]
		at, err := f.DataOffset()
		if err != nil || int(at) != r.At+len(Local(r)) {
			t.Errorf("%s: its bytes at %d, %v", tell(r), at, err)
		}
		if f.Name != r.Name || f.Comment != r.Note || int(f.Flags) != r.Flags || int(f.Method) != r.Method || int(f.ModifiedDate) != r.Date || int(f.ModifiedTime) != r.Clock || int(f.CRC32) != r.Sum || int(f.CompressedSize64) != r.Packed || int(f.UncompressedSize64) != r.Size || f.ExternalAttrs != 0 {
			t.Errorf("%s: Go has %+v", tell(r), f.FileHeader)
		}
		from, err := f.Open()
		if err != nil {
			t.Fatalf("%s: %v", tell(r), err)
		}
		if d, err := io.ReadAll(from); err != nil || string(d) != data(i) {
			t.Errorf("%s: %d bytes, %v", tell(r), len(d), err)
		}
	}
}

// raw is a header by which Go's own writer writes a record as it stands.
func raw(r api.Record) *zip.FileHeader {
	version := uint16(20)
	if r.Wide {
		version = 45
	}
	return &zip.FileHeader{
		Name: r.Name, Comment: r.Note, CreatorVersion: version, ReaderVersion: version,
		Flags: uint16(r.Flags), Method: uint16(r.Method), ModifiedDate: uint16(r.Date), ModifiedTime: uint16(r.Clock),
		CRC32: uint32(r.Sum), CompressedSize64: uint64(r.Packed), UncompressedSize64: uint64(r.Size),
	}
}

// writtenByGo is the bytes that Go's own writer makes of records, a few bytes behind each header; from is where they begin.
func writtenByGo(t *testing.T, list []api.Record, from int) string {
	t.Helper()
	var b bytes.Buffer
	z := zip.NewWriter(&b)
	z.SetOffset(int64(from))
	for _, r := range list {
		w, err := z.CreateRaw(raw(r))
		if err == nil {
			_, err = io.WriteString(w, "data")
		}
		if err != nil {
			t.Fatal(err)
		}
	}
	if err := z.Close(); err != nil {
		t.Fatal(err)
	}
	return b.String()
}

// holdCentrals holds that just these records come, one behind the other.
func holdCentrals(t *testing.T, s string, at int, list []api.Record) {
	t.Helper()
	c := &field.Cursor{S: s, At: at}
	for _, r := range list {
		holdReads(t, s, c.At, r)
		if x, is := ReadCentral(c); x != r || !is {
			t.Fatalf("%s: %s %v", tell(r), tell(x), is)
		}
	}
}

// TestGoWritesThem holds headers and records against those that Go's own writer makes of the same numbers.
func TestGoWritesThem(t *testing.T) {
	random := rand.New(rand.NewSource(143))
	for range 500 {
		var list []api.Record
		var lies, central string
		for i := range 1 + random.Intn(6) {
			r := chance(random)
			r.Name, r.Wide, r.At = fmt.Sprintf("name %d", i), false, len(lies)
			r.Size, r.Packed = some(random, 1<<32-2), some(random, 1<<32-2)
			list = append(list, r)
			lies += Local(r) + "data" + Tail(r)
			central += Central(r)
		}
		s := writtenByGo(t, list, 0)
		if !strings.HasPrefix(s, lies+central) {
			t.Fatalf("%s\nGo has %s", short(lies+central), short(s))
		}
		holdCentrals(t, s, len(lies), list)
		for _, r := range list {
			holdLocal(t, s, r.At, r, true)
		}
	}
}

// TestGoWritesWide does so with numbers that are too great for four bytes. Of those with the flag 8 Go's local headers have no extra field.
func TestGoWritesWide(t *testing.T) {
	random := rand.New(rand.NewSource(146))
	for range 500 {
		from := 1<<32 + some(random, 1<<60)
		var list []api.Record
		var lies, central string
		for i := range 1 + random.Intn(6) {
			r := chance(random)
			r.Name, r.Wide, r.At = fmt.Sprintf("name %d", i), true, from+len(lies)
			r.Size, r.Packed = 1<<32+some(random, 1<<61), 1<<32+some(random, 1<<61)
			list = append(list, r)
			header := Local(r)
			if r.Flags&8 != 0 {
				header = header[:14] + strings.Repeat("\x00", 12) + low(2, len(r.Name)) + "\x00\x00" + r.Name
			}
			lies += header + "data" + Tail(r)
			central += Central(r)
		}
		s := writtenByGo(t, list, from)
		if !strings.HasPrefix(s, lies+central) {
			t.Fatalf("%s\nGo has %s", short(lies+central), short(s))
		}
		holdCentrals(t, s, len(lies), list)
		for _, r := range list {
			holdLocal(t, s, r.At-from, r, r.Flags&8 == 0)
		}
	}
}

// P1.

func TestBytesOfChance(t *testing.T) {
	random := rand.New(rand.NewSource(144))
	for range 100000 {
		s := text(random, 200)
		holdRead(t, s, random.Intn(10)-1)
		holdRead(t, "PK\x01\x02\x14\x00\x14\x00"+s, 0)
		holdRead(t, "PK\x01\x02\x2d\x00\x2d\x00"+s, 0)
		r := chance(random)
		holdLocal(t, s, random.Intn(10)-1, r, false)
	}
}

// Records that may not be written: nothing is asked of them but that calls end.
func TestRecordsThatMayNotBe(t *testing.T) {
	random := rand.New(rand.NewSource(145))
	wild := func() int { return int(random.Uint64()) >> random.Intn(64) }
	long := strings.Repeat("n", 1<<17)
	for i := range 20000 {
		r := api.Record{Name: text(random, 9), Note: text(random, 9), Wide: i%2 == 0}
		for _, p := range fields(&r) {
			*p = wild()
		}
		if i%100 == 0 {
			r.Name = long[:65536+random.Intn(65536)]
		}
		if i%100 < 2 {
			r.Note = long[:65536+random.Intn(65536)]
		}
		if Right(r) != saidRight(r) {
			t.Errorf("Right(%s): %v", tell(r), Right(r))
		}
		local, central := Local(r), Central(r)
		if tail := Tail(r); (tail == "") != (r.Flags&8 == 0) {
			t.Errorf("Tail(%s): %x", tell(r), tail)
		}
		c := &field.Cursor{S: local}
		if is := ReadLocal(c, r); is == c.Bad {
			t.Errorf("ReadLocal(%s): %v, Bad %v", tell(r), is, c.Bad)
		}
		holdRead(t, central, 0)
		holdRead(t, local, 0)
	}
	for _, n := range []int{math.MinInt, math.MaxInt, -1} {
		for _, r := range kinds(api.Record{Flags: n, Method: n, Date: n, Clock: n, Sum: n, Size: n, Packed: n, At: n}) {
			Tail(r)
			holdRead(t, Central(r), 0)
			ReadLocal(&field.Cursor{S: Local(r)}, r)
		}
	}
}

// Many records, and the longest ones, within time.
func TestManyAndLong(t *testing.T) {
	begin := time.Now()
	var b strings.Builder
	r := wideOf(ordinary(), true)
	for range 65534 {
		b.WriteString(Central(r))
	}
	c := &field.Cursor{S: b.String()}
	for range 65534 {
		if x, is := ReadCentral(c); x != r || !is {
			t.Fatalf("%s %v", tell(x), is)
		}
	}
	if !c.Done() {
		t.Errorf("at %d of %d", c.At, len(c.S))
	}
	r.Name, r.Note = strings.Repeat("n", 65535), strings.Repeat("m", 65535)
	s := Central(r)
	for range 2000 {
		if _, is := ReadCentral(&field.Cursor{S: s}); !is {
			t.Fatal("the longest one isn't read")
		}
	}
	if spent := time.Since(begin); spent > time.Minute {
		t.Errorf("%v", spent)
	}
}

// Rule 4: what a call answers hangs on its arguments alone.
func TestNothingIsKeptBetweenCalls(t *testing.T) {
	all := samples()
	var group sync.WaitGroup
	for k := range 8 {
		group.Go(func() {
			for i := range 2000 {
				r := all[(i*(2*k+1)+k)%len(all)]
				holdWritten(t, r)
				holdReads(t, Central(r)+"x", 0, r)
				holdNone(t, Central(r)[1:], 0)
				holdLocal(t, Local(r), 0, r, true)
				holdLocal(t, Local(r), 1, r, false)
			}
		})
	}
	group.Wait()
}

func FuzzRecord(f *testing.F) {
	f.Add(Central(ordinary())+"x", 0, "a", "n", 8, 8, 33, 2114, 7, 5, 4, 9, false)
	f.Add(Central(wideOf(ordinary(), true)), 0, "", "", 0, 0, 0, 0, 1<<32-1, 1<<62-1, 1<<62-1, 1<<62-1, true)
	f.Add("PK\x01\x02", -1, "name", "note", 65535, 65535, 65535, 65535, -1, 1<<32-1, 1<<32-2, math.MinInt, false)
	f.Add("", math.MaxInt, "", "", -1, 65536, 1, 1, 1<<32, 1<<62, -1, math.MaxInt, true)
	f.Fuzz(func(t *testing.T, s string, at int, name, note string, flags, method, date, clock, sum, size, packed, place int, wide bool) {
		holdRead(t, s, at)
		r := api.Record{Name: name, Note: note, Flags: flags, Method: method, Date: date, Clock: clock, Sum: sum, Size: size, Packed: packed, At: place, Wide: wide}
		holdRight(t, r, saidRight(r))
		if !saidRight(r) {
			Local(r)
			Tail(r)
			holdRead(t, Central(r), 0)
			ReadLocal(&field.Cursor{S: s, At: at}, r)
			return
		}
		holdWritten(t, r)
		holdReads(t, Central(r)+s, 0, r)
		holdLocal(t, Local(r)+s, 0, r, true)
		holdLocal(t, s, at, r, at >= 0 && at <= len(s) && strings.HasPrefix(s[at:], saidLocal(r)))
	})
}
