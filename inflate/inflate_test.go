package inflate

import (
	"bytes"
	"compress/flate"
	"fmt"
	"io"
	"math"
	"math/rand"
	"slices"
	"strings"
	"sync"
	"testing"
	"time"

	"stevedore/api"
	"stevedore/deflate"
)

// plenty is a limit that none of the tests' streams comes to.
const plenty = 1 << 25

// short tells a text for a message.
func short(s string) string {
	if len(s) > 60 {
		return fmt.Sprintf("%x.. (%d)", s[:60], len(s))
	}
	return fmt.Sprintf("%x", s)
}

// holdAnswer holds what a stream is opened as.
func holdAnswer(t *testing.T, s string, limit int, text string, used int, e api.Errno) {
	t.Helper()
	a, n, f := Open(s, limit)
	if a != text || n != used || f != e {
		t.Fatalf("%s, limit %d: %s, %d bytes, error %d; asked for %s, %d bytes, error %d", short(s), limit, short(a), n, f, short(text), used, e)
	}
}

// holdError holds that a stream has just this error first.
func holdError(t *testing.T, s string, limit int, e api.Errno) {
	t.Helper()
	holdAnswer(t, s, limit, "", 0, e)
}

// holdSaid holds a stream against the chapter's words, and tells the kinds of its blocks.
func holdSaid(t *testing.T, s string, limit int) []int {
	t.Helper()
	text, used, e, kinds := saidOpen(s, limit)
	holdAnswer(t, s, limit, text, used, e)
	return kinds
}

// holdOpened holds that a stream is opened as a text and has just its bytes, whatever is behind it; the limit's edges, too. It tells the kinds of its blocks.
func holdOpened(t *testing.T, s, text string) []int {
	t.Helper()
	for _, behind := range []string{"", "\x00", "\xff", "\x4b\x04\x00", strings.Repeat("xyz", 9)} {
		holdAnswer(t, s+behind, len(text), text, len(s), api.OK)
	}
	holdAnswer(t, s, len(text)+1, text, len(s), api.OK)
	holdAnswer(t, s, math.MaxInt, text, len(s), api.OK)
	if text != "" {
		holdError(t, s, len(text)-1, api.ErrLimit)
		holdError(t, s, 0, api.ErrLimit)
		holdError(t, s, -1, api.ErrLimit)
	}
	return holdSaid(t, s, plenty)
}

// holdAt holds that an error is told when the last one of these bits is read, whatever is behind them, and not ahead of that.
func holdAt(t *testing.T, told string, limit int, e api.Errno) {
	t.Helper()
	told = tight(told)
	for n := range told {
		holdError(t, exact(told[:n]), limit, api.ErrShort)
	}
	s := exact(told)
	for _, behind := range []string{"", "\x00", "\xff", strings.Repeat("\x00", 300), strings.Repeat("\xff", 300), "\x4b\x04\x00"} {
		holdError(t, s+behind, limit, e)
	}
	holdSaid(t, s, limit)
}

// holdCuts holds that a stream that ends with these bits is opened as a text, and that each of its beginnings is too short.
func holdCuts(t *testing.T, told, text string) {
	t.Helper()
	told = tight(told)
	for n := range told {
		holdError(t, exact(told[:n]), plenty, api.ErrShort)
	}
	holdOpened(t, exact(told), text)
	holdOpened(t, bytesOf(told), text)
}

// holdByteCuts holds that a stream is opened as a text, and that all that it begins with is too short. (Where stored blocks are in it, no bits can be laid ahead.)
func holdByteCuts(t *testing.T, s, text string) {
	t.Helper()
	for n := range s {
		holdError(t, s[:n], plenty, api.ErrShort)
	}
	holdOpened(t, s, text)
}

// holdAtByte is holdAt by whole bytes.
func holdAtByte(t *testing.T, s string, limit int, e api.Errno) {
	t.Helper()
	for n := range s {
		holdError(t, s[:n], limit, api.ErrShort)
	}
	for _, behind := range []string{"", "\x00", "\xff", strings.Repeat("\x00", 300), strings.Repeat("\xff", 300)} {
		holdError(t, s+behind, limit, e)
	}
}

// chance is n bytes of chance, of the lowest so many.
func chance(random *rand.Rand, n, kinds int) string {
	b := make([]byte, n)
	for i := range b {
		b[i] = byte(random.Intn(kinds))
	}
	return string(b)
}

// speech is n bytes of words of chance, some of which come much oftener than others.
func speech(random *rand.Rand, n int) string {
	var words []string
	for range 60 {
		words = append(words, chance(random, 2+random.Intn(7), 26))
	}
	var b strings.Builder
	for b.Len() < n {
		b.WriteString(words[int(random.ExpFloat64()*9)%len(words)] + " ")
	}
	return b.String()[:n]
}

// texts is a few texts of each sort.
func texts(random *rand.Rand) []string {
	out := []string{"", "a", "b", "\x00", "\xff", "ab", "aa", "abc", "aaaa", "abcabcabcd", "stevedore", "\x00\x01\x02\x03"}
	for _, n := range []int{2, 3, 4, 5, 258, 259, 260, 1000, 32768, 32769, 66000} {
		out = append(out, strings.Repeat("a", n), strings.Repeat("\xff", n))
	}
	for _, n := range []int{1, 2, 3, 10, 100, 511, 512, 513, 2000, 33000, 65535, 65536, 70000} {
		out = append(out, chance(random, n, 256), chance(random, n, 2), speech(random, n))
	}
	return append(out, speech(random, 20000)+chance(random, 3000, 256)+strings.Repeat("b", 9000))
}

// packed is a text's stream by layer 10.
func packed(t *testing.T, s string, level int) string {
	t.Helper()
	out, e := deflate.Pack(s, level)
	if e != api.OK {
		t.Fatal("error", e)
	}
	return out
}

// written is a text's stream by Go's own writer, of pieces that are flushed.
func written(t *testing.T, level int, pieces ...string) string {
	t.Helper()
	var b bytes.Buffer
	w, err := flate.NewWriter(&b, level)
	if err != nil {
		t.Fatal(err)
	}
	for i, s := range pieces {
		io.WriteString(w, s)
		if i < len(pieces)-1 {
			w.Flush()
		}
	}
	w.Close()
	return b.String()
}

// seen is how often each kind of block was met.
type seen [4]int

func (k *seen) add(kinds []int) {
	for _, kind := range kinds {
		k[kind]++
	}
}

func (k *seen) all(t *testing.T) {
	t.Helper()
	if k[0] == 0 || k[1] == 0 || k[2] == 0 {
		t.Error("kinds met:", *k)
	}
}

// P11.1: streams that are opened

func TestOpenExamples(t *testing.T) {
	holdAnswer(t, "\x4b\x04\x00", 9, "a", 3, api.OK)
	holdAnswer(t, "\x4b\x04\x00xyz", 9, "a", 3, api.OK)
	holdAnswer(t, "\x01\x02\x00\xfd\xffab", 9, "ab", 7, api.OK)
	holdAnswer(t, "\x4b\x4c\x4a\x86\xa0\x14\x00", 10, "abcabcabcd", 7, api.OK)
}

func TestOpenStreamsOfLayerTen(t *testing.T) {
	var kinds seen
	for i, s := range texts(rand.New(rand.NewSource(111))) {
		for level := range 10 {
			if len(s) < 3000 || (i+level)%4 == 0 {
				kinds.add(holdOpened(t, packed(t, s, level), s))
			}
		}
	}
	kinds.all(t)
}

func TestOpenStreamsOfGo(t *testing.T) {
	var kinds seen
	random := rand.New(rand.NewSource(112))
	for i, s := range texts(random) {
		for level := -2; level <= 9; level++ {
			if len(s) < 3000 || (i+level)%4 == 0 {
				kinds.add(holdOpened(t, written(t, level, s), s))
			}
		}
	}
	kinds.all(t)
	for level := -2; level <= 9; level++ {
		a, b, c := speech(random, 500), chance(random, 700, 256), strings.Repeat("z", 900)
		kinds.add(holdOpened(t, written(t, level, a, b, c, a, "", c+b, "d", a), a+b+c+a+c+b+"d"+a))
	}
}

// Go's stored, fixed and dynamic ones alone.
func TestOpenEachKindOfGo(t *testing.T) {
	random := rand.New(rand.NewSource(113))
	for kind, s := range []string{written(t, 0, speech(random, 5000)), written(t, 9, "abcabcabcd"), written(t, 9, speech(random, 5000))} {
		kinds := holdSaid(t, s, plenty)
		if kinds[0] != kind {
			t.Errorf("kinds %v, asked for %d", kinds, kind)
		}
	}
}

func TestOpenByHand(t *testing.T) {
	// The last one, fixed; a; 39 bytes: symbol 273 and 4 more in 3 bits; 1 back; the end.
	holdCuts(t, "1 10 10010001 0010001 001 00000 0000000", strings.Repeat("a", 40))
	// a, b, c; 6 bytes from 3 back; d.
	holdCuts(t, "1 10 10010001 10010010 10010011 0000100 00010 10010100 0000000", "abcabcabcd")
	// Bytes of 9 bits.
	holdCuts(t, "1 10 111111111 110010000 0000000", "\xff\x90")
	// Lengths: of a and of 256 1, of the distances none. Runs: 97 noughts, 1, 138 and 20 noughts, 1, 0.
	// Their code: of 18 1 bit, of 0 and 1 two; in the Order: 16, 17: 0; 18: 1; 0: 2; 8 up to 14: 0; 1: 2.
	head := "00000 00000 0111 000 000 100 010 " + strings.Repeat("000 ", 13) + "010"
	holdCuts(t, "1 01 "+head+" 0 0110101 11 0 1111111 0 1001000 11 10 0 0 0 1", "aaa")
	// What is between a stored block's beginning and its length may be any bits.
	for fill := range 32 {
		holdOpened(t, bytesOf("1 00 "+low(fill, 5)+low(2, 16)+low(65533, 16))+"ab", "ab")
	}
	// A stored one, a fixed one, a stored one from a bit on, an empty one, a dynamic one.
	told := storedBlock(false, 0, "xy")
	told += begin(false, 1) + fixedWords("a") + fixedEnd
	told += storedBlock(false, len(told), "z\x00")
	told += storedBlock(false, len(told), "")
	told += dynamicBlock(true, placed(257, map[int]int{97: 1, 256: 1}), []int{0}) + "0 0 1"
	holdByteCuts(t, bytesOf(told), "xyaz\x00aa")
}

// The fixed code's bytes, all of them.
func TestOpenAllBytes(t *testing.T) {
	var all strings.Builder
	for c := range 256 {
		s := string([]byte{byte(c)})
		all.WriteString(s)
		holdOpened(t, bytesOf(begin(true, 1)+fixedWords(s)+fixedEnd), s)
		holdOpened(t, bytesOf(storedBlock(true, 0, s)), s)
		lens := placed(257, map[int]int{c: 1, 256: 1})
		holdOpened(t, bytesOf(dynamicBlock(true, lens, []int{0})+"0 1"), s)
	}
	holdOpened(t, bytesOf(begin(true, 1)+fixedWords(all.String())+fixedEnd), all.String())
}

// repeated is a text and a match that is added to it.
func repeated(s string, n, back int) string {
	b := []byte(s)
	for range n {
		b = append(b, b[len(b)-back])
	}
	return string(b)
}

// All lengths, those that lie back less than they have, too.
func TestOpenAllLengths(t *testing.T) {
	s := "stevedore"
	for n := 3; n <= 258; n++ {
		for back := 1; back <= len(s); back++ {
			text := repeated(s, n, back)
			holdAnswer(t, bytesOf(begin(true, 1)+fixedWords(s)+fixedMatch(n, back)+fixedEnd), len(text), text, (3+72+len(fixedMatch(n, back))+14)/8, api.OK)
		}
	}
	// 258 by symbol 284 and all its extra bits, too.
	words := spell(fixedLens())
	holdOpened(t, bytesOf(begin(true, 1)+fixedWords("a")+words[284]+"11111"+"00000"+fixedEnd), strings.Repeat("a", 259))
}

// The distances' symbols at their least and at their greatest, into a stored block before.
func TestOpenAllDistances(t *testing.T) {
	random := rand.New(rand.NewSource(114))
	s := chance(random, 32768, 256)
	ahead := bytesOf(storedBlock(false, 0, s))
	for _, x := range distRows() {
		for _, back := range []int{x.least, x.least + 1<<x.extra>>1, x.least + 1<<x.extra - 1} {
			text := repeated(s, 5, back)
			holdAnswer(t, ahead+bytesOf(begin(true, 1)+fixedMatch(5, back)+fixedEnd), len(text), text, len(ahead)+(3+len(fixedMatch(5, back))+14)/8, api.OK)
		}
	}
	for range 300 {
		back := 1 + random.Intn(32768)
		n := 3 + random.Intn(256)
		holdSaid(t, ahead+bytesOf(begin(true, 1)+fixedMatch(n, back)+fixedEnd), plenty)
	}
}

// mixed is blocks of each kind, whose matches reach into those before, and what they come to.
func mixed(last bool) (string, string) {
	lens := placed(286, map[int]int{'a': 2, 'b': 2, 256: 2, 257: 3, 285: 3})
	words := spell(lens)
	head := func(last bool) string { return dynamicBlock(last, lens, []int{1, 0, 1}) }
	told := storedBlock(false, 0, "qrs")
	told += begin(false, 1) + fixedWords("t") + fixedMatch(3, 4) + fixedEnd
	told += head(false) + words['a'] + words['b'] + words[257] + "1" + words[256] // 3 bytes from 3 back
	told += storedBlock(false, len(told), "uv")
	told += head(last) + words['b'] + words[285] + "0" + words[256] // 258 from 1 back
	return told, "qrs" + "tqrs" + "absab" + "uv" + strings.Repeat("b", 259)
}

// Into blocks before, of each kind, and as far as the first byte.
func TestOpenMatchesIntoBlocksBefore(t *testing.T) {
	told, text := mixed(true)
	holdByteCuts(t, bytesOf(told), text)
	told, text = mixed(false)
	for _, back := range []int{1, 2, 3, 4, 258, 259, 260, 261, 262, 266, 267, 272, len(text)} {
		for _, n := range []int{3, 4, 100, 258} {
			holdOpened(t, bytesOf(told+begin(true, 1)+fixedMatch(n, back)+fixedEnd), repeated(text, n, back))
		}
	}
	holdError(t, bytesOf(told+begin(true, 1)+fixedMatch(3, len(text)+1)), plenty, api.ErrFar)
}

// 32768 back, over many blocks, and not one more: there is no such distance.
func TestOpenMatchesFarBack(t *testing.T) {
	random := rand.New(rand.NewSource(115))
	for _, size := range []int{32768, 32769, 40000, 70000} {
		s := chance(random, size, 256)
		ahead := ""
		for i := 0; i < size; i += 1000 {
			ahead += bytesOf(storedBlock(false, 0, s[i:min(size, i+1000)]))
		}
		for _, n := range []int{3, 10, 257, 258} {
			told := begin(true, 1) + fixedMatch(n, 32768) + fixedMatch(n, 32767) + fixedMatch(n, 1) + fixedEnd
			holdOpened(t, ahead+bytesOf(told), repeated(repeated(repeated(s, n, 32768), n, 32767), n, 1))
		}
	}
}

func TestOpenEmptyTexts(t *testing.T) {
	holdOpened(t, "\x03\x00", "")
	holdOpened(t, "\x01\x00\x00\xff\xff", "")
	holdCuts(t, begin(true, 1)+fixedEnd, "")
	one := dynamicBlock(true, placed(257, map[int]int{256: 1}), []int{0}) + "0"
	holdCuts(t, one, "")
	for k := range 8 {
		holdCuts(t, nothing(k)+begin(true, 1)+fixedEnd, "")
		holdByteCuts(t, bytesOf(nothing(k)+storedBlock(true, k, "")), "")
	}
	holdOpened(t, strings.Repeat("\x00\x00\x00\xff\xff", 1000)+"\x03\x00", "")
	holdOpened(t, bytesOf(strings.Repeat(begin(false, 1)+fixedEnd, 4001)+begin(true, 1)+fixedEnd), "")
}

// How many bytes a stream has, when it ends with each bit of a byte.
func TestOpenTellsBytesUsed(t *testing.T) {
	ends := map[int]int{}
	for n := range 40 {
		s := strings.Repeat("\xff", n) // 9 bits each
		told := begin(true, 1) + fixedWords(s) + fixedEnd
		ends[len(told)%8]++
		used := (10 + 9*n + 7) / 8
		for _, behind := range []string{"", "a", "\xff\xff", chance(rand.New(rand.NewSource(int64(n))), 50, 256)} {
			holdAnswer(t, bytesOf(told)+behind, n, s, used, api.OK)
		}
		// What is left of the last byte may be any bits.
		for ; len(told)%8 != 0; told += "1" {
			holdAnswer(t, bytesOf(told), n, s, used, api.OK)
		}
		holdAnswer(t, bytesOf(told), n, s, used, api.OK)
	}
	if len(ends) != 8 {
		t.Error("ends met:", ends)
	}
	for _, n := range []int{0, 1, 2, 255, 256, 65534, 65535} {
		s := strings.Repeat("x", n)
		holdOpened(t, bytesOf(storedBlock(true, 0, s)), s)
		holdAnswer(t, "\x01"+string([]byte{byte(n), byte(n >> 8), ^byte(n), ^byte(n >> 8)})+s+"tail", n, s, n+5, api.OK)
	}
}

// P11.1: ErrShort

func TestShortBeginnings(t *testing.T) {
	holdError(t, "", 9, api.ErrShort)
	holdError(t, "", -1, api.ErrShort)
	// What is left of a byte is no whole beginning of a block, whatever it is.
	for left := range 3 {
		for v := range 1 << left {
			holdError(t, exact(low(v, left)), 9, api.ErrShort)
			holdError(t, exact(low(v, left)), -1, api.ErrShort)
		}
	}
	// Just as many bits as it has are enough to tell what it is.
	holdError(t, exact("011"), 9, api.ErrForm)
	holdError(t, exact("111"), 9, api.ErrForm)
}

// A header that ends at each of its bits.
func TestShortHeaders(t *testing.T) {
	for _, told := range []int{4, 5, 18, 19} {
		whole := tight(begin(true, 2) + counts(286, 30, told) + strings.Repeat("000", told))
		for n := range whole {
			holdError(t, exact(whole[:n]), 9, api.ErrShort)
		}
		// No code: 15 bits that are no symbol have to be there.
		holdAt(t, whole+strings.Repeat("0", 15), 9, api.ErrCode)
		holdAt(t, whole+strings.Repeat("1", 15), 9, api.ErrCode)
	}
}

// Runs, and their extra bits.
func TestShortRuns(t *testing.T) {
	for _, r := range []api.Run{{Sym: 0}, {Sym: 1}, {Sym: 12}, {Sym: 13}, {Sym: 15}, {Sym: 17}, {Sym: 17, Extra: 7}, {Sym: 18}, {Sym: 18, Extra: 127}} {
		whole := tight(header(true, 257, 1, r, api.Run{Sym: 16, Extra: 3}))
		for n := range len(whole) + 1 {
			holdError(t, exact(whole[:n]), 9, api.ErrShort)
		}
	}
}

// Symbols of bytes, of lengths, of distances, their extra bits, and the end.
func TestShortSymbols(t *testing.T) {
	lens, dists := fixedLens(), fixedDists()
	words, far := spell(lens), spell(dists)
	ahead := strings.Repeat("a", 258)
	for sym, x := range lenRows() {
		for _, v := range []int{0, 1<<x.extra - 1} {
			told := begin(true, 1) + words['a'] + words[257+sym] + low(v, x.extra) + far[0] + fixedEnd
			holdCuts(t, told, repeated("a", x.least+v, 1))
		}
	}
	for sym, x := range distRows()[:16] {
		for _, v := range []int{0, 1<<x.extra - 1} {
			if x.least+v <= len(ahead) {
				told := storedBlock(false, 0, ahead) + begin(true, 1) + words[257] + far[sym] + low(v, x.extra) + fixedEnd
				holdOpened(t, bytesOf(told), ahead+"aaa")
			}
			told := tight(begin(true, 1) + words[257] + far[sym] + low(v, x.extra))
			for n := range told {
				holdError(t, exact(told[:n]), plenty, api.ErrShort)
			}
		}
	}
	// 13 extra bits.
	s := chance(rand.New(rand.NewSource(116)), 32768, 256)
	told := bytesOf(storedBlock(false, 0, s))
	end := begin(true, 1) + fixedMatch(3, 32768)
	for n := range len(end) + 1 {
		if n%8 == 0 {
			holdError(t, told+bytesOf(end[:n]), plenty, api.ErrShort)
		}
	}
}

// Stored blocks' lengths and bytes.
func TestShortStored(t *testing.T) {
	for _, s := range []string{"", "a", "ab", strings.Repeat("x", 255), strings.Repeat("y", 256), strings.Repeat("z", 65535)} {
		whole := bytesOf(storedBlock(true, 0, s))
		for n := range whole {
			if n < 10 || n > len(whole)-10 {
				holdError(t, whole[:n], plenty, api.ErrShort)
				holdError(t, "\x00\x00\x00\xff\xff"+whole[:n], plenty, api.ErrShort)
			}
		}
		holdOpened(t, whole, s)
	}
	// As many as the text has behind it would be there without the length.
	holdError(t, "\x01\x05\x00\xfa\xffabcd", 9, api.ErrShort)
	holdAnswer(t, "\x01\x05\x00\xfa\xffabcde", 9, "abcde", 10, api.OK)
}

// P11.1: ErrForm

func TestKindThree(t *testing.T) {
	holdError(t, "\x06", 9, api.ErrForm)
	holdError(t, "\x07", 9, api.ErrForm)
	holdAt(t, "011", 9, api.ErrForm)
	holdAt(t, "111", -1, api.ErrForm)
	holdAt(t, begin(false, 1)+fixedWords("stevedore")+fixedEnd+"111", 9, api.ErrForm)
	holdAtByte(t, bytesOf(storedBlock(false, 0, "ab")+"011"), 9, api.ErrForm)
	// Not behind the last one.
	holdAnswer(t, "\x4b\x04\x00\x07", 9, "a", 3, api.OK)
	holdAnswer(t, bytesOf("1 10 0000000 111111"), 9, "", 2, api.OK)
}

func TestStoredOfNumbersThatDontFit(t *testing.T) {
	for _, n := range []int{0, 1, 2, 255, 256, 32767, 32768, 65534, 65535} {
		// A bit of either number is another one.
		whole := low(n, 16) + low(65535-n, 16)
		for i := range whole {
			told := whole[:i] + string('0'+'1'-rune(whole[i])) + whole[i+1:]
			holdError(t, "\x01"+bytesOf(told)+strings.Repeat("x", 65535), plenty, api.ErrForm)
			holdError(t, "\x01"+bytesOf(told), plenty, api.ErrForm)
			holdError(t, "\x01"+bytesOf(told), -1, api.ErrForm)
		}
		for _, rest := range []int{n, 65536 - n, 65534 - n, 0, 65535} {
			if rest >= 0 && rest < 65536 && n+rest != 65535 {
				holdError(t, "\x01"+bytesOf(low(n, 16)+low(rest, 16))+strings.Repeat("x", 65535), plenty, api.ErrForm)
			}
		}
	}
	// From the last bit of the second number on.
	for n := range 5 {
		holdError(t, "\x01\x02\x00\xfd\xfe"[:n], 9, api.ErrShort)
	}
	holdError(t, "\x01\x02\x00\xfd\xfe", 9, api.ErrForm)
	holdError(t, "\x01\x02\x00\xfd\xfeab", 9, api.ErrForm)
	holdAtByte(t, bytesOf(begin(false, 1)+fixedWords("a")+fixedEnd+begin(true, 0)+"000"+low(2, 16)+low(2, 16)), 9, api.ErrForm)
}

// When all three numbers are read, and no bit ahead of that.
func TestTooManyLengths(t *testing.T) {
	for _, told := range []int{4, 11, 19} {
		for _, lens := range []int{287, 288} {
			for _, dists := range []int{1, 2, 29, 30, 31, 32} {
				holdAt(t, begin(true, 2)+counts(lens, dists, told), 9, api.ErrForm)
			}
		}
		for _, dists := range []int{31, 32} {
			for _, lens := range []int{257, 285, 286, 288} {
				holdAt(t, begin(false, 2)+counts(lens, dists, told), 9, api.ErrForm)
			}
		}
		// As many as there may be: what is told of them is another thing.
		holdAt(t, begin(true, 2)+counts(286, 30, told)+strings.Repeat("111", told), 9, api.ErrCode)
	}
	// Blocks of as many as there may be, and of one less.
	for _, lens := range []int{257, 285, 286} {
		for _, dists := range []int{1, 2, 29, 30} {
			told := dynamicBlock(true, placed(lens, map[int]int{97: 1, 256: 1}), placed(dists, map[int]int{dists - 1: 1}))
			holdOpened(t, bytesOf(told+"0 0 1"), "aa")
		}
	}
	holdCuts(t, dynamicBlock(true, placed(286, map[int]int{98: 1, 256: 1}), placed(30, map[int]int{29: 1}))+"0 1", "b")
}

// A run that repeats the last length stands first: all its extra bits are read, and then none more.
func TestRunsThatRepeatNothing(t *testing.T) {
	for extra := range 4 {
		holdAt(t, header(true, 257, 1, api.Run{Sym: 16, Extra: extra}), 9, api.ErrForm)
		holdAt(t, header(true, 286, 30, api.Run{Sym: 16, Extra: extra}), 9, api.ErrForm)
	}
	// By a code that has no other symbol, too.
	own := placed(19, map[int]int{16: 1})
	holdAt(t, begin(true, 2)+counts(257, 1, 4)+threes(own, 4)+"0"+"00", 9, api.ErrForm)
	// Behind any other run there is one.
	for _, r := range []api.Run{{Sym: 0}, {Sym: 5}, {Sym: 17}, {Sym: 18}} {
		whole := header(true, 257, 1, r, api.Run{Sym: 16, Extra: 3})
		holdError(t, exact(whole), 9, api.ErrShort)
	}
}

// zeros is runs that stand for so many noughts.
func zeros(n int) []api.Run {
	var out []api.Run
	for ; n >= 149; n -= 138 {
		out = append(out, api.Run{Sym: 18, Extra: 127})
	}
	if n >= 11 {
		k := min(n, 138)
		out = append(out, api.Run{Sym: 18, Extra: k - 11})
		n -= k
	}
	for range n {
		out = append(out, api.Run{})
	}
	return out
}

func TestRunsBeyondTheLengths(t *testing.T) {
	for _, x := range [][2]int{{257, 1}, {257, 30}, {270, 7}, {286, 1}, {286, 30}} {
		n := x[0] + x[1]
		for sym, least := range map[int]int{16: 3, 17: 3, 18: 11} {
			extras := map[int]int{16: 4, 17: 8, 18: 128}[sym]
			for _, extra := range []int{0, 1, extras / 2, extras - 1} {
				times := least + extra
				for _, left := range []int{1, 2, times - 1} {
					if left < times && left > 0 {
						l := append(zeros(n-left), api.Run{Sym: sym, Extra: extra})
						holdAt(t, header(true, x[0], x[1], l...), 9, api.ErrForm)
					}
				}
				// Just up to the end it is right, but there is no length for 256.
				l := append(zeros(n-times), api.Run{Sym: sym, Extra: extra})
				holdAt(t, header(true, x[0], x[1], l...), 9, api.ErrCode)
			}
		}
	}
}

// Runs from the first code's lengths into the second one's are right, of each symbol.
func TestRunsOverBothCodes(t *testing.T) {
	// a and 256 have 1 bit; the second code has three that are as 256's: one too many.
	l := slices.Concat(zeros(97), each([]int{1}), zeros(158), each([]int{1}))
	holdAt(t, header(true, 257, 3, append(l, api.Run{Sym: 16})...), 9, api.ErrCode)
	holdCuts(t, header(true, 257, 2, append(l, each([]int{1, 1})...)...)+"0 1", "a")
	// a 1, b and 256 2: the second code has four that are as 256's.
	l = slices.Concat(zeros(97), each([]int{1, 2}), zeros(157), each([]int{2}))
	holdCuts(t, header(true, 257, 4, append(l, api.Run{Sym: 16, Extra: 1})...)+"0 10 11", "ab")
	holdCuts(t, header(true, 257, 4, append(l, api.Run{Sym: 16}, api.Run{Sym: 2})...)+"0 10 11", "ab")
	// Four of 2 in each of them, the last two of the first one and all of the second one by one run.
	l = slices.Concat(zeros(97), each([]int{2}), zeros(156), each([]int{2}))
	holdCuts(t, header(true, 257, 4, append(l, api.Run{Sym: 16, Extra: 3})...)+"00 11", "a")
	// The last ones of the first code, and all of the second one, are noughts by one run.
	l = slices.Concat(zeros(97), each([]int{1}), zeros(158), each([]int{1}))
	for _, r := range []api.Run{{Sym: 17}, {Sym: 17, Extra: 7}, {Sym: 18}, {Sym: 18, Extra: 40}} {
		n := r.Extra + map[int]int{17: 3, 18: 11}[r.Sym]
		lens := min(286, 257+n-1)
		holdCuts(t, header(true, lens, 257+n-lens, append(l, r)...)+"0 0 1", "aa")
	}
}

// P11.1: ErrCode

// Lengths of the code of runs that make none, when the last one of them is read.
func TestRunsOfNoCode(t *testing.T) {
	for _, own := range []map[int]int{
		{16: 2},                                  // one alone, of another length than 1
		{0: 7},                                   //
		{0: 1, 8: 2},                             // not full
		{0: 2, 8: 2, 7: 2},                       //
		{0: 1, 8: 1, 7: 1},                       // too full
		{16: 1, 17: 1, 18: 7},                    //
		{18: 1, 0: 2, 8: 3, 7: 4, 9: 5, 6: 6},    //
		{18: 7, 0: 7, 8: 7, 7: 7, 9: 7, 6: 7},    //
		{16: 1, 17: 2, 18: 3, 0: 4, 8: 4, 15: 4}, //
		{16: 3, 17: 3, 18: 3, 0: 3, 8: 3, 7: 3, 9: 3}, //
	} {
		lengths := placed(19, own)
		for told := 4; told <= 19; told++ {
			all := 0
			for _, sym := range order()[:told] {
				if lengths[sym] > 0 {
					all++
				}
			}
			if all == len(own) {
				holdAt(t, begin(true, 2)+counts(257, 1, told)+threes(lengths, told), 9, api.ErrCode)
			}
		}
	}
	// It comes ahead of what the runs would be.
	whole := begin(true, 2) + counts(257, 1, 19) + threes(placed(19, map[int]int{16: 2}), 19)
	holdError(t, bytesOf(whole), 9, api.ErrCode)
	// One alone, of 1: a code, whose runs are taken.
	for sym := range 19 {
		lengths := placed(19, map[int]int{sym: 1})
		whole := begin(true, 2) + counts(257, 1, 19) + threes(lengths, 19)
		switch sym {
		case 16:
			holdAt(t, whole+"0 00", 9, api.ErrForm)
		case 17:
			holdAt(t, whole+strings.Repeat("0 111", 25)+"0 101", 9, api.ErrCode)
			holdAt(t, whole+strings.Repeat("0 111", 26), 9, api.ErrForm)
		case 18:
			holdAt(t, whole+"0 1111111 0 1011011", 9, api.ErrCode)
			holdAt(t, whole+"0 1111111 0 0111011", 9, api.ErrForm)
		default:
			holdAt(t, whole+strings.Repeat("0", 258), 9, api.ErrCode)
		}
	}
}

// right is lengths of a first code that has 256, and of a second one.
func right() ([]int, []int) {
	return placed(257, map[int]int{97: 1, 256: 1}), []int{1}
}

// Lengths of a block's codes that make none, when all of both are read, and ahead of any symbol.
func TestBlocksOfNoCode(t *testing.T) {
	lens, dists := right()
	for _, own := range []map[int]int{
		{256: 2},
		{256: 15},
		{97: 1, 256: 2},
		{97: 1, 98: 2, 256: 3},
		{97: 1, 98: 1, 256: 1},
		{97: 1, 98: 15, 256: 1},
		{0: 1, 1: 2, 2: 3, 3: 4, 4: 5, 5: 6, 6: 7, 7: 8, 8: 9, 9: 10, 10: 11, 11: 12, 12: 13, 13: 14, 256: 15},
		{0: 1, 1: 2, 2: 3, 3: 4, 4: 5, 5: 6, 6: 7, 7: 8, 8: 9, 9: 10, 10: 11, 11: 12, 12: 13, 13: 14, 14: 15, 255: 15, 256: 15},
	} {
		holdAt(t, dynamicBlock(true, placed(257, own), dists), 9, api.ErrCode)
		holdAt(t, dynamicBlock(false, placed(257, own), []int{2}), -1, api.ErrCode)
	}
	for _, own := range []map[int]int{
		{0: 2},
		{29: 15},
		{0: 1, 1: 2},
		{0: 1, 1: 1, 2: 1},
		{0: 1, 1: 2, 2: 3},
		{4: 2, 5: 2, 6: 2},
		{4: 2, 5: 2, 6: 2, 7: 2, 29: 15},
	} {
		// The block has no match: its second code has to be one nonetheless.
		holdAt(t, dynamicBlock(true, lens, placed(30, own)), 9, api.ErrCode)
		holdError(t, bytesOf(dynamicBlock(true, lens, placed(30, own))+"1"), 9, api.ErrCode)
	}
	// Codes of 15 bits, and one of no symbols.
	long := map[int]int{}
	for n := range 15 {
		long[n+97] = n + 1
	}
	long[256] = 15
	holdCuts(t, dynamicBlock(true, placed(257, long), []int{0})+"0 10"+strings.Repeat("1", 15), "ab")
	holdCuts(t, dynamicBlock(true, lens, []int{0, 0, 0})+"0 1", "a")
	holdCuts(t, dynamicBlock(true, lens, []int{0, 0, 1})+"0 1", "a")
	holdCuts(t, dynamicBlock(true, lens, []int{0, 1, 1})+"0 1", "a")
}

// No length for 256, though the lengths make a code.
func TestBlocksWithoutAnEnd(t *testing.T) {
	for _, own := range []map[int]int{
		{},
		{97: 1},
		{97: 1, 98: 1},
		{97: 1, 255: 1},
		{97: 1, 257: 1},
		{255: 2, 257: 2, 97: 2, 98: 2},
	} {
		for _, n := range []int{258, 286} {
			for _, dists := range [][]int{{0}, {1}, {1, 1}} {
				holdAt(t, dynamicBlock(true, placed(n, own), dists), 9, api.ErrCode)
			}
		}
	}
	// All bytes have a code, and no other symbol.
	all := placed(257, nil)
	for c := range 256 {
		all[c] = 8
	}
	holdAt(t, dynamicBlock(true, all, []int{1}), 9, api.ErrCode)
	// Of 256 alone it is 1.
	holdCuts(t, dynamicBlock(true, placed(257, map[int]int{256: 1}), []int{1})+"0", "")
}

// odd15 is 15 bits each that begin with a 1.
func odd15() []string {
	return []string{strings.Repeat("1", 15), "1" + strings.Repeat("0", 14), "101010101010101", "100000000000001", "111111111111110"}
}

// 15 bits that are no symbol: fewer of them are too short.
func TestBitsThatAreNoSymbol(t *testing.T) {
	four := placed(286, map[int]int{97: 2, 256: 2, 257: 2, 284: 2}) // 00, 01, 10, 11
	for _, none := range append(odd15(), strings.Repeat("0", 15), "010101010101010") {
		// No distance has a code.
		holdAt(t, dynamicBlock(true, four, []int{0})+"00"+"10"+none, plenty, api.ErrCode)
		holdAt(t, dynamicBlock(true, four, []int{0, 0, 0})+"00"+"11"+"10101"+none, plenty, api.ErrCode)
		// No run has one.
		holdAt(t, begin(true, 2)+counts(257, 1, 4)+"000 000 000 000"+none, 9, api.ErrCode)
	}
	for _, none := range odd15() {
		for _, dist := range []int{0, 1, 29} {
			lengths := placed(30, map[int]int{dist: 1})
			holdAt(t, dynamicBlock(true, four, lengths)+"00"+"10"+none, plenty, api.ErrCode)
			// Ahead of that it would be too far, or beyond the limit.
			holdAt(t, dynamicBlock(true, four, lengths)+"10"+none, 0, api.ErrCode)
		}
		holdAt(t, dynamicBlock(true, placed(257, map[int]int{256: 1}), []int{0})+none, 9, api.ErrCode)
		// Of one run's code.
		own := threes(placed(19, map[int]int{5: 1}), 19)
		holdAt(t, begin(true, 2)+counts(257, 1, 19)+own+none, 9, api.ErrCode)
		holdAt(t, begin(true, 2)+counts(257, 1, 19)+own+"000"+none, 9, api.ErrCode)
	}
}

// Symbols of the fixed codes that stand for nothing: of a length ahead of its distance, of a distance ahead of what it would be.
func TestSymbolsThatStandForNothing(t *testing.T) {
	words, far := spell(fixedLens()), spell(fixedDists())
	for sym := 286; sym < 288; sym++ {
		for _, ahead := range []string{"", "a", "stevedore"} {
			for _, limit := range []int{len(ahead), 100} {
				holdAt(t, begin(true, 1)+fixedWords(ahead)+words[sym], limit, api.ErrCode)
				holdAt(t, begin(false, 1)+fixedWords(ahead)+fixedEnd+begin(false, 1)+words[sym], limit, api.ErrCode)
			}
		}
		holdAt(t, begin(true, 1)+words[sym], -1, api.ErrCode)
	}
	for sym := 30; sym < 32; sym++ {
		for _, ahead := range []string{"", "a", "stevedore"} {
			for _, limit := range []int{len(ahead), 1000} {
				for _, n := range []string{words[257], words[285], words[265] + "1", words[284] + "01010"} {
					holdAt(t, begin(true, 1)+fixedWords(ahead)+n+far[sym], limit, api.ErrCode)
				}
			}
		}
	}
	// The last ones that stand for something: too far here.
	holdAt(t, begin(true, 1)+words[285]+far[29]+strings.Repeat("1", 13), plenty, api.ErrFar)
}

// P11.1: ErrFar

func TestTooFar(t *testing.T) {
	for _, ahead := range []string{"", "a", "ab", "abc", "stevedore", strings.Repeat("x", 40)} {
		for _, n := range []int{3, 4, 11, 12, 257, 258} {
			for _, more := range []int{1, 2, 3, 200} {
				told := begin(true, 1) + fixedWords(ahead) + fixedMatch(n, len(ahead)+more)
				// It comes ahead of the limit.
				for _, limit := range []int{len(ahead), len(ahead) + 1, plenty} {
					if more < 3 {
						holdAt(t, told, limit, api.ErrFar)
					}
					holdError(t, bytesOf(told), limit, api.ErrFar)
				}
			}
			if ahead != "" {
				holdOpened(t, bytesOf(begin(true, 1)+fixedWords(ahead)+fixedMatch(n, len(ahead))+fixedEnd), repeated(ahead, n, len(ahead)))
			}
		}
	}
	holdAt(t, begin(true, 1)+fixedMatch(3, 1), -1, api.ErrFar)
	holdAt(t, begin(true, 1)+fixedMatch(3, 32768), math.MinInt, api.ErrFar)
	holdError(t, "\x03\x02", 9, api.ErrFar)
	// What a match has added is there for the next one.
	holdOpened(t, bytesOf(begin(true, 1)+fixedWords("a")+fixedMatch(3, 1)+fixedMatch(3, 4)+fixedEnd), "aaaaaaa")
	holdAt(t, begin(true, 1)+fixedWords("a")+fixedMatch(3, 1)+fixedMatch(3, 5), plenty, api.ErrFar)
}

// At all distances' symbols, from behind a stored block of a byte less, and of just as many.
func TestTooFarAtAllDistances(t *testing.T) {
	s := chance(rand.New(rand.NewSource(117)), 32768, 256)
	for _, x := range distRows() {
		for _, back := range []int{x.least, x.least + 1<<x.extra - 1} {
			end := bytesOf(begin(true, 1) + fixedMatch(3, back) + fixedEnd)
			if back > 1 {
				holdError(t, bytesOf(storedBlock(false, 0, s[:back-1]))+end, plenty, api.ErrFar)
				holdError(t, bytesOf(storedBlock(false, 0, s[:back-1]))+end, back-1, api.ErrFar)
			}
			holdAnswer(t, bytesOf(storedBlock(false, 0, s[:back]))+end, plenty, s[:back]+repeated(s[:back], 3, back)[back:], back+5+len(end), api.OK)
		}
	}
}

// P11.1: ErrLimit

func TestLimitByAByte(t *testing.T) {
	lens, dists := right()
	for n := range 9 {
		s := "stevedore"[:n]
		told := begin(true, 1) + fixedWords(s+"x")
		holdAt(t, told, n, api.ErrLimit)
		holdAt(t, dynamicBlock(true, lens, dists)+strings.Repeat("0", n+1), n, api.ErrLimit)
		holdOpened(t, bytesOf(told+fixedEnd), s+"x")
		holdOpened(t, bytesOf(dynamicBlock(true, lens, dists)+strings.Repeat("0", n)+"1"), strings.Repeat("a", n))
	}
	for _, limit := range []int{-1, -2, math.MinInt32, math.MinInt + 1, math.MinInt} {
		holdAt(t, begin(true, 1)+fixedWords("x"), limit, api.ErrLimit)
		holdAt(t, dynamicBlock(true, lens, dists)+"0", limit, api.ErrLimit)
	}
}

// When all bits of a match are read.
func TestLimitByAMatch(t *testing.T) {
	for n := 3; n <= 258; n++ {
		told := begin(true, 1) + fixedWords("ab") + fixedMatch(n, 2)
		for _, limit := range []int{2, 3, n, n + 1} {
			holdError(t, bytesOf(told), limit, api.ErrLimit)
		}
		holdAt(t, told, n+1, api.ErrLimit)
		text := repeated("ab", n, 2)
		holdAnswer(t, bytesOf(told+fixedEnd), n+2, text, (len(told)+7+7)/8, api.OK)
	}
	// Of what the blocks before have come to.
	told, text := mixed(false)
	for _, n := range []int{3, 10, 258} {
		end := begin(true, 1) + fixedMatch(n, 7)
		for limit := len(text); limit < len(text)+n; limit++ {
			holdError(t, bytesOf(told+end), limit, api.ErrLimit)
		}
		holdOpened(t, bytesOf(told+end+fixedEnd), repeated(text, n, 7))
	}
}

// When a stored block's length is read: whether its bytes are there or not.
func TestLimitByAStoredBlock(t *testing.T) {
	for _, n := range []int{1, 2, 255, 256, 257, 65534, 65535} {
		s := strings.Repeat("x", n)
		whole := bytesOf(storedBlock(true, 0, s))
		for _, limit := range []int{0, 1, n / 2, n - 1, -1, math.MinInt} {
			if limit < n {
				holdAtByte(t, whole[:5], limit, api.ErrLimit)
				holdError(t, whole, limit, api.ErrLimit)
				holdError(t, whole[:len(whole)-1], limit, api.ErrLimit)
			}
		}
		holdOpened(t, whole, s)
		// With room for them all it goes on to the bytes.
		holdError(t, whole[:5], n, api.ErrShort)
		holdError(t, whole[:len(whole)-1], n, api.ErrShort)
		holdError(t, whole[:len(whole)-1], math.MaxInt, api.ErrShort)
	}
	// Behind other blocks.
	told, text := mixed(false)
	told += storedBlock(true, len(told), "wxyz")
	for n := range 4 {
		holdError(t, bytesOf(told), len(text)+n, api.ErrLimit)
		holdError(t, bytesOf(told[:len(told)-32]), len(text)+n, api.ErrLimit)
		holdError(t, bytesOf(told[:len(told)-32]), len(text)+4, api.ErrShort)
	}
	holdOpened(t, bytesOf(told), text+"wxyz")
}

// Blocks without bytes: a stored one is beyond a limit below 0, no other one is.
func TestLimitsOfNoBytes(t *testing.T) {
	lens, dists := right()
	empty := "\x01\x00\x00\xff\xff"
	for _, limit := range []int{-1, -2, -65535, -65536, math.MinInt32, math.MinInt + 1, math.MinInt} {
		holdAtByte(t, empty, limit, api.ErrLimit)
		holdError(t, "\x01\x00\x00\xfe\xff", limit, api.ErrForm)
		holdAnswer(t, "\x03\x00"+empty, limit, "", 2, api.OK)
		holdAnswer(t, bytesOf(begin(true, 1)+fixedEnd), limit, "", 2, api.OK)
		one := bytesOf(dynamicBlock(true, lens, dists) + "1")
		holdAnswer(t, one, limit, "", len(one), api.OK)
		for k := range 8 {
			holdError(t, bytesOf(nothing(k)+storedBlock(false, k, "")), limit, api.ErrLimit)
			s := bytesOf(nothing(k) + begin(true, 1) + fixedEnd)
			holdAnswer(t, s, limit, "", len(s), api.OK)
		}
	}
	for _, limit := range []int{0, 1, math.MaxInt} {
		holdAnswer(t, empty, limit, "", 5, api.OK)
		holdAnswer(t, "\x03\x00", limit, "", 2, api.OK)
		holdAnswer(t, "\x00\x00\x00\xff\xff"+empty, limit, "", 10, api.OK)
	}
	// Full up, one without bytes is within the limit.
	holdAnswer(t, "\x00\x02\x00\xfd\xffab"+empty, 2, "ab", 12, api.OK)
	holdAnswer(t, "\x00\x02\x00\xfd\xffab\x03\x00", 2, "ab", 9, api.OK)
}

// P11.1: the first error

// Where two could be told, it is the one whose bits end first; where these are the same, the one that the chapter says.
func TestFirstErrors(t *testing.T) {
	words, far := spell(fixedLens()), spell(fixedDists())
	lens, dists := right()
	none := placed(257, map[int]int{97: 1})
	for _, x := range []struct {
		told  string
		limit int
		e     api.Errno
	}{
		// A stored block: its numbers, the limit, its bytes.
		{begin(true, 0) + "00000" + low(9, 16) + low(9, 16), 3, api.ErrForm},
		{begin(true, 0) + "00000" + low(9, 16) + low(65526, 16), 8, api.ErrLimit},
		{begin(true, 0) + "00000" + low(9, 16) + low(65526, 16), 9, api.ErrShort},
		{begin(true, 0) + "00000" + low(9, 16) + low(65526, 8), 3, api.ErrShort},
		// A header: how many lengths, the code of runs, the runs, the codes.
		{begin(true, 2) + counts(288, 32, 4), 9, api.ErrForm},
		{begin(true, 2) + counts(286, 30, 4) + "100 100 000 00", 9, api.ErrShort},
		{begin(true, 2) + counts(286, 30, 4) + "010 010 000 000", 9, api.ErrCode},
		{header(true, 257, 1, api.Run{Sym: 16}), 9, api.ErrForm},
		{header(true, 257, 1, append(zeros(257), api.Run{Sym: 17})...), 9, api.ErrForm},
		{header(true, 257, 1, append(each(none), api.Run{Sym: 15})...), 9, api.ErrCode},
		{dynamicBlock(true, none, dists), -1, api.ErrCode},
		{dynamicBlock(true, lens, []int{3}), -1, api.ErrCode},
		// Symbols: what they stand for, how far back, the limit.
		{begin(true, 1) + words[286], 0, api.ErrCode},
		{begin(true, 1) + words[257] + far[30], 0, api.ErrCode},
		{begin(true, 1) + words[257] + far[0], 0, api.ErrFar},
		{begin(true, 1) + words['a'] + words[257] + far[0], 1, api.ErrLimit},
		{begin(true, 1) + words['a'] + words[257] + far[1], 1, api.ErrFar},
		{begin(true, 1) + words['a'] + words[257], 1, api.ErrShort},
		{begin(true, 1) + words['a'] + words[284] + "1111", 1, api.ErrShort},
		{begin(true, 1) + words['a'] + words[257] + far[4], 1, api.ErrShort},
		{begin(true, 1) + words['a'], 0, api.ErrLimit},
		// Blocks one behind the other.
		{begin(false, 1) + words['a'] + fixedEnd + begin(false, 3), 0, api.ErrLimit},
		{begin(false, 1) + words['a'] + fixedEnd + begin(false, 3), 1, api.ErrForm},
		{begin(false, 1) + words['a'] + fixedEnd + begin(true, 1) + words[257] + far[1], 9, api.ErrFar},
		{begin(false, 1) + words['a'] + fixedEnd + begin(true, 2) + counts(287, 1, 4), 1, api.ErrForm},
		{begin(false, 1) + words[287] + fixedEnd + begin(true, 3), 1, api.ErrCode},
		{begin(false, 1) + words[258] + far[9] + "111" + fixedEnd + begin(true, 3), 1, api.ErrFar},
	} {
		s := exact(x.told)
		holdError(t, s, x.limit, x.e)
		holdSaid(t, s, x.limit)
		if x.e != api.ErrShort {
			holdError(t, s+"\x07\x00\xff", x.limit, x.e)
			holdError(t, s+strings.Repeat("\x00", 400), x.limit, x.e)
		}
	}
}

// P11.1: all streams of two bytes, streams of chance, and streams that are right but for a few bits.

func TestOpenAllShortStreams(t *testing.T) {
	limits := []int{plenty, 0, 1, -1, 5}
	holdSaid(t, "", 0)
	for a := range 256 {
		for _, limit := range limits {
			holdSaid(t, string([]byte{byte(a)}), limit)
		}
		for b := range 256 {
			holdSaid(t, string([]byte{byte(a), byte(b)}), plenty)
			holdSaid(t, string([]byte{byte(a), byte(b)}), limits[(a+b)%5])
		}
	}
}

// met is how often each error was told.
type met [17]int

// holdMet holds a stream against the chapter's words, and by Go's own reader.
func (m *met) holdMet(t *testing.T, s string, limit int) {
	t.Helper()
	_, _, e := Open(s, limit)
	m[e]++
	holdSaid(t, s, limit)
	holdGo(t, s)
}

func (m *met) all(t *testing.T, least int) {
	t.Helper()
	for _, e := range []api.Errno{api.OK, api.ErrShort, api.ErrForm, api.ErrCode, api.ErrFar, api.ErrLimit} {
		if m[e] < least {
			t.Errorf("error %d was told %d times", e, m[e])
		}
	}
}

// holdGo holds that Go's own reader opens a stream if, and only if, it is opened here, as the same text of as many bytes.
func holdGo(t *testing.T, s string) {
	t.Helper()
	from := strings.NewReader(s)
	text, err := io.ReadAll(flate.NewReader(from))
	a, n, e := Open(s, math.MaxInt)
	if (err == nil) != (e == api.OK) {
		t.Fatalf("%s: error %d, Go's: %v", short(s), e, err)
	}
	if err == nil && (a != string(text) || n != len(s)-from.Len()) {
		t.Fatalf("%s: %s, %d bytes; Go's: %s, %d bytes", short(s), short(a), n, short(string(text)), len(s)-from.Len())
	}
}

func TestOpenBytesOfChance(t *testing.T) {
	random := rand.New(rand.NewSource(118))
	var m met
	for i := range 20000 {
		m.holdMet(t, chance(random, random.Intn(80), 256), []int{plenty, random.Intn(10), -1}[i%3])
	}
	m.all(t, 5)
}

// spoilt is a stream with a few bits turned, bytes added, taken or cut.
func spoilt(random *rand.Rand, s string) string {
	b := []byte(s)
	for range random.Intn(4) {
		at := random.Intn(len(b) + 1)
		switch i := min(at, len(b)-1); {
		case len(b) == 0:
		case random.Intn(6) == 0:
			b = slices.Insert(b, at, byte(random.Intn(256)))
		case random.Intn(6) == 0:
			b = slices.Delete(b, i, i+1)
		case random.Intn(6) == 0:
			b = b[:at]
		case random.Intn(2) == 0:
			// Headers are where most may go wrong.
			b[random.Intn(min(len(b), 40))] ^= 1 << random.Intn(8)
		default:
			b[i] ^= 1 << random.Intn(8)
		}
	}
	return string(b)
}

func TestOpenSpoiltStreams(t *testing.T) {
	random := rand.New(rand.NewSource(119))
	var m met
	for i := range 4000 {
		a, b := speech(random, random.Intn(400)), chance(random, random.Intn(60), 1+random.Intn(256))
		s := written(t, i%12-2, a, b, a)
		if i%3 == 0 {
			s = packed(t, a+b+a, i%10)
		}
		s = spoilt(random, s)
		m.holdMet(t, s, plenty)
		n := 2*len(a) + len(b)
		m.holdMet(t, s, []int{n, n - 1, random.Intn(n + 1), 0, -1}[i%5])
	}
	m.all(t, 50)
}

// full is lengths of chance that make a code of n symbols, out of so many.
func full(random *rand.Rand, n, of, most int) []int {
	out := make([]int, of)
	if n == 1 {
		out[random.Intn(of)] = 1
		return out
	}
	lengths := []int{1, 1}
	for len(lengths) < n {
		i := random.Intn(len(lengths))
		if lengths[i] < most {
			lengths[i]++
			lengths = append(lengths, lengths[i])
		}
	}
	for i, at := range random.Perm(of)[:min(n, of)] {
		out[at] = lengths[i]
	}
	return out
}

// drawn is a dynamic block of codes of chance, and bits of chance behind its header: almost all of them are symbols.
func drawn(random *rand.Rand, last bool) string {
	lens := full(random, 2+random.Intn(256), 257+random.Intn(30), 15)
	dists := full(random, 1+random.Intn(15), 15+random.Intn(16), 15)
	if lens[256] == 0 && random.Intn(9) > 0 {
		for sym := range lens {
			if lens[sym] > 0 {
				lens[256], lens[sym] = lens[sym], 0
				break
			}
		}
	}
	out := dynamicBlock(last, lens, dists)
	for range 30 {
		out += low(random.Intn(1<<30), 1+random.Intn(30))
	}
	words := spell(lens)
	return out + words[256]
}

func TestOpenCodesOfChance(t *testing.T) {
	random := rand.New(rand.NewSource(120))
	var m met
	for i := range 1500 {
		ahead := storedBlock(false, 0, chance(random, random.Intn(2000), 256))
		s := bytesOf(ahead + drawn(random, true))
		m.holdMet(t, s, plenty)
		m.holdMet(t, s, random.Intn(3000))
		m.holdMet(t, spoilt(random, s), plenty)
		if i%5 == 0 {
			m.holdMet(t, bytesOf(drawn(random, true)), plenty)
		}
	}
	if m[api.OK] == 0 || m[api.ErrCode] == 0 || m[api.ErrFar] == 0 || m[api.ErrLimit] == 0 || m[api.ErrShort] == 0 {
		t.Error("errors met:", m)
	}
}

// Lengths as runs of chance, most of which are right.
func TestOpenRunsOfChance(t *testing.T) {
	random := rand.New(rand.NewSource(121))
	var m met
	for range 3000 {
		lens, dists := 257+random.Intn(30), 1+random.Intn(30)
		var l []api.Run
		for range 1 + random.Intn(60) {
			l = append(l, []api.Run{{Sym: random.Intn(16)}, {Sym: 16, Extra: random.Intn(4)}, {Sym: 17, Extra: random.Intn(8)}, {Sym: 18, Extra: random.Intn(128)}}[random.Intn(4)])
		}
		m.holdMet(t, bytesOf(header(random.Intn(2) == 0, lens, dists, l...)), plenty)
	}
	if m[api.ErrForm] < 50 || m[api.ErrCode] == 0 || m[api.ErrShort] < 50 {
		t.Error("errors met:", m)
	}
}

// P11.2

func TestPackedIsOpenedAsItWas(t *testing.T) {
	random := rand.New(rand.NewSource(122))
	for i := range 300 {
		s := chance(random, random.Intn(50*i+1), 1+random.Intn(256)) + speech(random, random.Intn(50*i+1))
		for _, level := range []int{i % 10, (i + 5) % 10} {
			p := packed(t, s, level)
			holdAnswer(t, p, len(s), s, len(p), api.OK)
			holdAnswer(t, p+s, len(s), s, len(p), api.OK)
			holdError(t, p[:len(p)-1], len(s), api.ErrShort)
			holdError(t, p[:random.Intn(len(p))], len(s), api.ErrShort)
		}
	}
}

// Without its last byte, or any more, a stream has no end.
func TestStreamsWithoutTheirEnds(t *testing.T) {
	random := rand.New(rand.NewSource(123))
	for _, s := range texts(random) {
		for level := range 10 {
			if len(s) > 3000 && level%4 > 0 {
				continue
			}
			p := packed(t, s, level)
			holdError(t, p[:len(p)-1], len(s), api.ErrShort)
			step := 1 + len(p)/50
			for n := 0; n < len(p); n += step {
				holdError(t, p[:n], len(s), api.ErrShort)
			}
		}
	}
	s := speech(random, 1500) + chance(random, 600, 256)
	for level := range 10 {
		for _, p := range []string{packed(t, s, level), written(t, level, s, s)} {
			for n := range p {
				holdError(t, p[:n], plenty, api.ErrShort)
			}
		}
	}
}

// P1

// A call hangs on its arguments alone: others in between, and at the same time, change nothing.
func TestNothingIsKeptBetweenCalls(t *testing.T) {
	s := speech(rand.New(rand.NewSource(124)), 5000)
	p := packed(t, s, 6)
	var all sync.WaitGroup
	for i := range 40 {
		all.Go(func() {
			Open(p[i:], i)
			Open(p[:len(p)-i], plenty)
			if text, n, e := Open(p, len(s)); text != s || n != len(p) || e != api.OK {
				t.Errorf("call %d: another answer", i)
			}
		})
	}
	all.Wait()
}

func TestLongStreamsEnd(t *testing.T) {
	begin := time.Now()
	random := rand.New(rand.NewSource(125))
	for level, s := range map[int]string{0: strings.Repeat("\x00", 1<<23), 9: strings.Repeat("\x00", 1<<24), 5: chance(random, 1<<20, 256), 6: speech(random, 1<<20)} {
		p := packed(t, s, level)
		holdAnswer(t, p, len(s), s, len(p), api.OK)
		holdError(t, p, len(s)-1, api.ErrLimit)
		holdError(t, p[:len(p)-1], len(s), api.ErrShort)
	}
	// Very many blocks of nothing.
	for _, s := range []string{strings.Repeat("\x00\x00\x00\xff\xff", 1<<19), strings.Repeat(bytesOf(strings.Repeat("010"+fixedEnd, 4)), 1<<15), strings.Repeat(bytesOf(nothing(1)+nothing(7)), 1<<13)} {
		holdError(t, s, 0, api.ErrShort)
		holdAnswer(t, s+"\x03\x00", 0, "", len(s)+2, api.OK)
	}
	if spent := time.Since(begin); spent > time.Minute {
		t.Error("took", spent)
	}
}

// Any bytes, at any limit.
func FuzzOpen(f *testing.F) {
	f.Add("", 0)
	f.Add("\x4b\x04\x00xyz", 9)
	f.Add("\x01\x02\x00\xfd\xffab", 2)
	f.Add("\x03\x02", -1)
	f.Add(bytesOf(dynamicBlock(true, placed(257, map[int]int{97: 1, 256: 1}), []int{1})+"001"), 2)
	told, _ := mixed(true)
	f.Add(bytesOf(told), 1000)
	f.Fuzz(func(t *testing.T, s string, limit int) {
		holdSaid(t, s, limit)
		holdSaid(t, s, limit&1023)
		holdSaid(t, s, plenty)
		holdGo(t, s)
	})
}
