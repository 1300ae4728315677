package deflate

import (
	"bytes"
	"compress/flate"
	"fmt"
	"io"
	"math"
	"math/rand"
	"slices"
	"strings"
	"sync"
	"testing"
	"time"

	"stevedore/api"
	"stevedore/bits"
	"stevedore/block"
	"stevedore/match"
)

// saidStored is the chapter's words of level 0, the fields written out.
func saidStored(s string) string {
	var b strings.Builder
	for {
		n := min(len(s), 65535)
		last := byte(0)
		if n == len(s) {
			last = 1
		}
		b.Write([]byte{last, byte(n), byte(n >> 8), ^byte(n), ^byte(n >> 8)})
		b.WriteString(s[:n])
		s = s[n:]
		if last == 1 {
			return b.String()
		}
	}
}

// saidBlock writes all forms that a block may have, behind as many bits of a byte, and takes the first one of the fewest.
func saidBlock(w *bits.Writer, s string, l []api.Token, last bool) {
	var best func(w *bits.Writer)
	least := 0
	for kind := range 3 {
		form := func(w *bits.Writer) { block.Write(w, l, kind, last) }
		if kind == 0 {
			form = func(w *bits.Writer) { block.Store(w, s, last) }
		}
		if kind == 0 && len(s) > 65535 {
			continue
		}
		trial := &bits.Writer{}
		trial.Put(0, w.N%8)
		form(trial)
		if best == nil || trial.N-w.N%8 < least {
			best, least = form, trial.N-w.N%8
		}
	}
	best(w)
}

// saidPack is the chapter's words of the levels that there are.
func saidPack(s string, level int) string {
	if level == 0 {
		return saidStored(s)
	}
	w := &bits.Writer{}
	l := match.Tokens(s, level)
	for {
		n, size := min(len(l), 512), 0
		for _, x := range l[:n] {
			size += max(x.Len, 1)
		}
		saidBlock(w, s[:size], l[:n], n == len(l))
		if n == len(l) {
			return w.Bytes()
		}
		s, l = s[size:], l[n:]
	}
}

// blocks is how many blocks there are of so many things, so many in each.
func blocks(n, each int) int {
	return max(1, (n+each-1)/each)
}

// short tells a text for a message.
func short(s string) string {
	if len(s) > 60 {
		return fmt.Sprintf("%q.. (%d)", s[:60], len(s))
	}
	return fmt.Sprintf("%q", s)
}

// packed is the stream of a text, by a level that there is.
func packed(t *testing.T, s string, level int) string {
	t.Helper()
	out, e := Pack(s, level)
	if e != api.OK {
		t.Fatalf("%s by %d: error %d", short(s), level, e)
	}
	return out
}

// holdBytes holds a text's stream against the one asked for.
func holdBytes(t *testing.T, s string, level int, asked string) {
	t.Helper()
	out := packed(t, s, level)
	if out == asked {
		return
	}
	at := 0
	for at < len(out) && at < len(asked) && out[at] == asked[at] {
		at++
	}
	t.Fatalf("%s by %d: from byte %d on %x (of %d), asked for %x (of %d)", short(s), level, at, out[at:min(at+20, len(out))], len(out), asked[at:min(at+20, len(asked))], len(asked))
}

// holdOpened holds that Go's own reader gives back the text, and takes all of the stream.
func holdOpened(t *testing.T, s string, level int) {
	t.Helper()
	from := strings.NewReader(packed(t, s, level))
	got, err := io.ReadAll(flate.NewReader(from))
	if err != nil {
		t.Fatalf("%s by %d: %v", short(s), level, err)
	}
	if string(got) != s || from.Len() > 0 {
		t.Fatalf("%s by %d: opened as %s, and %d bytes are left", short(s), level, short(string(got)), from.Len())
	}
}

// holdBlocks holds a stream's blocks: what each is of, and that just the last one says so.
func holdBlocks(t *testing.T, s string, level int) []part {
	t.Helper()
	all := parts(t, packed(t, s, level))
	l := match.Tokens(s, level)
	asked := blocks(len(l), 512)
	if level == 0 {
		asked = blocks(len(s), 65535)
	}
	if len(all) != asked {
		t.Fatalf("%s by %d: %d blocks, asked for %d", short(s), level, len(all), asked)
	}
	for i, p := range all {
		n := min(512, len(l))
		size := (part{tokens: l[:n]}).size()
		if level == 0 {
			size = min(65535, len(s))
		}
		same := p.bytes == s[:size]
		if p.kind != 0 {
			same = slices.Equal(p.tokens, l[:n])
		}
		if !same || p.last != (i == len(all)-1) || level == 0 && p.kind != 0 {
			t.Fatalf("%s by %d: block %d is of kind %d, %d tokens, %d bytes; asked for %d tokens, %d bytes", short(s), level, i, p.kind, len(p.tokens), p.size(), n, size)
		}
		s, l = s[size:], l[n:]
	}
	return all
}

// holdShort holds that a stream is no longer than its text, and five bytes for each block: a stored one's beginning takes 3 bits up to a whole byte, and 32, and no other one that is taken instead has more bits.
func holdShort(t *testing.T, s string, level int) {
	t.Helper()
	n := blocks(len(match.Tokens(s, level)), 512)
	if level == 0 {
		n = blocks(len(s), 65535)
	}
	if out := packed(t, s, level); len(out) > len(s)+5*n {
		t.Fatalf("%s by %d: %d bytes in %d blocks", short(s), level, len(out), n)
	}
}

// hold holds all that is asked of a text by a level, and tells the stream's blocks.
func hold(t *testing.T, s string, level int) []part {
	t.Helper()
	holdBytes(t, s, level, saidPack(s, level))
	holdOpened(t, s, level)
	holdShort(t, s, level)
	return holdBlocks(t, s, level)
}

// span is the bytes from one up to another one.
func span(from, to int) string {
	var b strings.Builder
	for c := from; c <= to; c++ {
		b.WriteByte(byte(c))
	}
	return b.String()
}

// once is n bytes of chance out of each of some rows, no three one behind the other of which are there twice: no match is in them.
func once(random *rand.Rand, n int, rows ...string) string {
	var b []byte
	seen := map[string]bool{}
	for len(b) < n*len(rows) {
		of := rows[len(b)/n]
		b = append(b, of[random.Intn(len(of))])
		if len(b) < 3 {
			continue
		}
		three := string(b[len(b)-3:])
		if seen[three] {
			b = b[:len(b)-1]
		}
		seen[three] = true
	}
	return string(b)
}

// hard is n bytes that have 9 bits each in a fixed block, and whose own codes cost much to tell, since two others lie between each two of them.
func hard(n int) string {
	b := make([]byte, n)
	for i := range b {
		b[i] = byte(144 + 3*i)
	}
	return string(b)
}

// chance is n bytes of chance, of the lowest so many.
func chance(random *rand.Rand, n, kinds int) string {
	b := make([]byte, n)
	for i := range b {
		b[i] = byte(random.Intn(kinds))
	}
	return string(b)
}

// speech is n bytes of words of chance, some of which come much oftener than others.
func speech(random *rand.Rand, n int) string {
	var words []string
	for range 60 {
		words = append(words, once(random, 2+random.Intn(7), "abcdefghijklmnopqrstuvwxyz"))
	}
	var b strings.Builder
	for b.Len() < n {
		b.WriteString(words[int(random.ExpFloat64()*9)%len(words)] + " ")
	}
	return b.String()[:n]
}

// alike is the text of one byte that comes to so many tokens: that byte, and matches of 258.
func alike(tokens int) string {
	return strings.Repeat("a", 1+258*(tokens-1))
}

// tokened is the longest beginning of a text that comes to just so many tokens by a level.
func tokened(t *testing.T, s string, level, n int) string {
	t.Helper()
	for cut := (part{tokens: match.Tokens(s, level)[:n]}).size(); cut > 0; cut-- {
		if len(match.Tokens(s[:cut], level)) == n {
			return s[:cut]
		}
	}
	t.Fatal("no beginning of", n, "tokens")
	return ""
}

// bytesOf is the bytes of bits that are told one by one, with room between for those who read them.
func bytesOf(told string) string {
	w := &bits.Writer{}
	for _, c := range strings.ReplaceAll(told, " ", "") {
		w.Bit(int(c - '0'))
	}
	return w.Bytes()
}

// P10.1

func TestPackExamples(t *testing.T) {
	holdBytes(t, "a", 6, "\x4b\x04\x00")
	holdBytes(t, "", 9, "\x03\x00")
	holdBytes(t, "", 0, "\x01\x00\x00\xff\xff")
	holdBytes(t, "ab", 0, "\x01\x02\x00\xfd\xffab")
	for level := 1; level <= 9; level++ {
		holdBytes(t, "a", level, "\x4b\x04\x00")
	}
}

// Streams written out by hand.
func TestPackByHand(t *testing.T) {
	for level := 1; level <= 9; level++ {
		// The last one, fixed; a; 39 bytes: symbol 273 and 4 more in 3 bits; 1 back; the end.
		holdBytes(t, strings.Repeat("a", 40), level, bytesOf("1 10 10010001 0010001 001 00000 0000000"))
		// a, b, c; 6 bytes from 3 back; d.
		holdBytes(t, "abcabcabcd", level, bytesOf("1 10 10010001 10010010 10010011 0000100 00010 10010100 0000000"))
		// Bytes of 9 bits.
		holdBytes(t, "\xff\x90", level, bytesOf("1 10 111111111 110010000 0000000"))
		// A stored one, since its 37 bytes would have 9 bits each, and codes of their own have to be told.
		holdBytes(t, hard(37), level, "\x01\x25\x00\xda\xff"+hard(37))
	}
}

// A dynamic one, written out by hand: 512 tokens fill it, and the last block, of a byte, begins where it ends.
func TestPackTwoBlocksByHand(t *testing.T) {
	s := alike(512) + "b"
	all := hold(t, s, 9)
	if len(all) != 2 || all[0].kind != 2 || all[1].kind != 1 || all[0].size() != 131839 || all[1].size() != 1 {
		t.Fatal(len(all), all[0].kind, all[0].size())
	}
	// Three first symbols: 285 511 times, a and the end once: 1, 2 and 2 bits; of distances just symbol 0, of 1 bit.
	// The lengths: 97 noughts, 2, 138 and 20 noughts, 2 (256), 28 noughts, 1 (285); 1 (distance 0). Runs: 18 four times, 2 twice, 1 twice.
	// Their code: of 18 1 bit, of 1 and of 2 two; in the Order: 16, 17: 0; 18: 1; 0, 8, 7, 9, 6, 10, 5, 11, 4, 12, 3, 13: 0; 2: 2; 14: 0; 1: 2.
	none := strings.Repeat("000 ", 12)
	order := "000 000 100 " + none + "010 000 010"
	head := "10111 00000 0111 " + order
	runs := "0 0110101 11 0 1111111 0 1001000 11 0 1000100 10 10"
	body := "10" + strings.Repeat(" 00", 511) + " 11"
	holdBytes(t, s, 9, bytesOf("0 01 "+head+" "+runs+" "+body+" 1 10 10010010 0000000"))
}

func TestPackWrongLevels(t *testing.T) {
	levels := []int{math.MinInt, math.MinInt + 1, math.MinInt + 6, math.MinInt32, -256, -65, -64, -10, -9, -6, -2, -1, 10, 11, 15, 16, 63, 64, 65, 255, 256, 262, 1 << 16, math.MaxInt32, 1 << 32, 1<<32 + 6, math.MaxInt - 1, math.MaxInt}
	for _, level := range levels {
		for _, s := range []string{"", "a", "abcabcabcd", strings.Repeat("x", 70000)} {
			if out, e := Pack(s, level); out != "" || e != api.ErrArg {
				t.Fatalf("%s by %d: %s, error %d", short(s), level, short(out), e)
			}
		}
	}
}

func TestPackAllLevels(t *testing.T) {
	for level := 0; level <= 9; level++ {
		if _, e := Pack("a", level); e != api.OK {
			t.Errorf("level %d: error %d", level, e)
		}
	}
}

func TestPackEmptyText(t *testing.T) {
	holdBytes(t, "", 0, "\x01\x00\x00\xff\xff")
	hold(t, "", 0)
	for level := 1; level <= 9; level++ {
		holdBytes(t, "", level, "\x03\x00")
		if all := hold(t, "", level); len(all) != 1 || all[0].kind != 1 {
			t.Errorf("level %d: %v", level, all)
		}
	}
}

func TestPackShortTexts(t *testing.T) {
	for level := 0; level <= 9; level++ {
		for b := range 256 {
			hold(t, string([]byte{byte(b)}), level)
		}
		for _, s := range []string{"aa", "ab", "aaa", "aaaa", "abcabcabcd", "\x00\x00\x00\x00", "\xff\xfe\x80\xff\xfe\x80", "日本日本", "stevedore"} {
			hold(t, s, level)
		}
	}
}

// One byte again and again: matches that go on into themselves.
func TestPackOneByteAgain(t *testing.T) {
	for level := 0; level <= 9; level++ {
		for _, n := range []int{2, 3, 4, 5, 258, 259, 260, 261, 262, 517, 1000} {
			hold(t, strings.Repeat("a", n), level)
			hold(t, strings.Repeat("\xff", n), level)
			hold(t, strings.Repeat("\x00", n), level)
		}
	}
}

// By level 0: full blocks, and the last one of what is left; none of nothing behind a full one.
func TestPackStoredBlocks(t *testing.T) {
	long := chance(rand.New(rand.NewSource(101)), 4*65535, 256)
	for n, sizes := range map[int][]int{
		0:      {0},
		1:      {1},
		65534:  {65534},
		65535:  {65535},
		65536:  {65535, 1},
		65537:  {65535, 2},
		131069: {65535, 65534},
		131070: {65535, 65535},
		131071: {65535, 65535, 1},
		196605: {65535, 65535, 65535},
		200000: {65535, 65535, 65535, 3395},
	} {
		s := long[:n]
		all := hold(t, s, 0)
		if len(all) != len(sizes) {
			t.Fatalf("%d bytes: %d blocks", n, len(all))
		}
		for i, p := range all {
			if p.kind != 0 || len(p.bytes) != sizes[i] || p.last != (i == len(sizes)-1) {
				t.Errorf("%d bytes: block %d of kind %d has %d", n, i, p.kind, len(p.bytes))
			}
		}
		if out := packed(t, s, 0); len(out) != n+5*len(sizes) {
			t.Errorf("%d bytes: a stream of %d", n, len(out))
		}
	}
}

// Level 0 stores, however few bits the text would have otherwise.
func TestPackLevelNoughtStores(t *testing.T) {
	for _, n := range []int{10, 511, 512, 513, 1024, 65535, 65536, 131839} {
		s := strings.Repeat("a", n)
		for _, p := range hold(t, s, 0) {
			if p.kind != 0 {
				t.Errorf("%d bytes: kind %d", n, p.kind)
			}
		}
		holdBytes(t, s, 0, saidStored(s))
	}
}

// counts is how many tokens a text may have so that its last block is almost full, full, or of one token.
func counts() []int {
	return []int{1, 2, 510, 511, 512, 513, 514, 1023, 1024, 1025, 1535, 1536, 1537, 2560, 2561}
}

func holdCounted(t *testing.T, s string, level, n int) {
	t.Helper()
	if got := len(match.Tokens(s, level)); got != n {
		t.Fatalf("%s by %d: %d tokens, not %d", short(s), level, got, n)
	}
	all := hold(t, s, level)
	if len(all) != blocks(n, 512) {
		t.Fatalf("%d tokens: %d blocks", n, len(all))
	}
	for i, p := range all {
		asked := 512
		if i == len(all)-1 {
			asked = n - 512*i
		}
		if p.kind != 0 && len(p.tokens) != asked || p.last != (i == len(all)-1) {
			t.Fatalf("%d tokens: block %d has %d", n, i, len(p.tokens))
		}
	}
}

// Texts without matches: as many tokens as bytes, in stored, fixed and dynamic blocks.
func TestPackBlocksOfBytes(t *testing.T) {
	random := rand.New(rand.NewSource(102))
	for _, n := range counts() {
		for _, of := range []string{span(0, 255), span(144, 255), span(0, 143), span('a', 'z')} {
			s := once(random, n, of)
			for level := 1; level <= 9; level++ {
				holdCounted(t, s, level, n)
			}
		}
	}
}

// Texts of nearly nothing but the longest matches.
func TestPackBlocksOfMatches(t *testing.T) {
	for _, n := range counts() {
		for _, level := range []int{1, 3, 4, 9} {
			holdCounted(t, alike(n), level, n)
		}
	}
}

func TestPackBlocksOfBoth(t *testing.T) {
	s := speech(rand.New(rand.NewSource(103)), 30000)
	for level := 1; level <= 9; level++ {
		for _, n := range counts() {
			holdCounted(t, tokened(t, s, level, n), level, n)
		}
	}
}

// Each level has its own number of places that are tried, and some look one place ahead.
func TestPackIsByLevel(t *testing.T) {
	random := rand.New(rand.NewSource(104))
	s := speech(random, 20000) + chance(random, 20000, 3)
	seen := map[string]int{}
	for level := 0; level <= 9; level++ {
		hold(t, s, level)
		out := packed(t, s, level)
		if other, is := seen[out]; is {
			t.Errorf("levels %d and %d have one stream", other, level)
		}
		seen[out] = level
	}
}

// Behind 1 to 7 other bits, and behind none, the stored form is the shortest: bytes of 9 bits each lie from the next whole byte on.
func TestPackStoredBehindOtherBits(t *testing.T) {
	random := rand.New(rand.NewSource(105))
	begins := map[int]int{}
	for range 300 {
		s := once(random, 512, span(0, 20+random.Intn(100)), span(0, 255))
		for _, level := range []int{1, 9} {
			all := hold(t, s, level)
			if len(all) != 2 || all[0].kind == 0 || all[1].kind != 0 || all[1].bytes != s[512:] {
				t.Fatal("not a stored block behind another one:", len(all), all[0].kind, all[1].kind)
			}
			begins[all[1].begin%8]++
		}
	}
	for at := range 8 {
		if begins[at] == 0 {
			t.Error("none behind", at, "bits")
		}
	}
}

// How many bits there are so far decides: a stored block's beginning has so many as are missing up to a whole byte. Of bytes of 9 bits there are as many as make it even with a fixed one (the least kind is it), and one less.
func TestPackChoosesByBitsSoFar(t *testing.T) {
	random := rand.New(rand.NewSource(106))
	ties := map[int]int{}
	for range 300 {
		first := once(random, 512, span(0, 20+random.Intn(100)))
		at := hold(t, first+"\x80", 6)[1].begin
		even := 25 + (13-at%8)%8
		for by := -1; by <= 1; by++ {
			all := hold(t, first+hard(even+by), 6)
			asked := 0
			if by < 0 {
				asked = 1
			}
			if len(all) != 2 || all[1].kind != asked {
				t.Fatalf("behind %d bits, %d bytes of 9 bits: kind %d, asked for %d", at, even+by, all[1].kind, asked)
			}
		}
		ties[at%8]++
	}
	for at := range 8 {
		if ties[at] == 0 {
			t.Error("none behind", at, "bits")
		}
	}
}

// Kinds change from block to block, each as it fits its own tokens.
func TestPackChoosesForEachBlock(t *testing.T) {
	random := rand.New(rand.NewSource(107))
	many, few := span(0, 255), span(1, 20)
	s := once(random, 512, many, few, many, many, few, few) + "."
	for level := 1; level <= 9; level++ {
		asked := []int{0, 2, 0, 0, 2, 2, 1}
		all := hold(t, s, level)
		if len(all) != len(asked) {
			t.Fatalf("level %d: %d blocks", level, len(all))
		}
		for i, p := range all {
			if p.kind != asked[i] {
				t.Errorf("level %d: block %d of kind %d", level, i, p.kind)
			}
		}
	}
}

// A block's tokens may come to more than a stored one can have: it is another one, and the bytes behind it are those that follow.
func TestPackBlocksOfManyBytes(t *testing.T) {
	random := rand.New(rand.NewSource(108))
	for level := 1; level <= 9; level++ {
		all := hold(t, alike(512)+once(random, 512, span(0, 96)+span(98, 255))+alike(600), level)
		if all[0].kind == 0 || all[0].size() != 131839 || all[1].kind != 0 || all[2].size() < 65536 {
			t.Errorf("level %d: %d and %d bytes", level, all[0].size(), all[2].size())
		}
	}
	// As many as a stored one can have, one less and some more.
	for _, n := range []int{65534, 65535, 65536, 65537, 65793, 131070} {
		for _, level := range []int{1, 4, 9} {
			if all := hold(t, strings.Repeat("a", n), level); len(all) != 1 || all[0].size() != n || all[0].kind == 0 {
				t.Errorf("%d bytes by %d: %d blocks", n, level, len(all))
			}
		}
	}
}

// As far back as matches may lie, into blocks that are written: 64 of them.
func TestPackMatchesIntoBlocksBefore(t *testing.T) {
	// Bytes of 8 bits in a fixed block: none is stored, and all tokens are seen.
	s := once(rand.New(rand.NewSource(109)), 33000, span(0, 142))
	for _, level := range []int{1, 3, 4, 9} {
		for _, dist := range []int{3, 511, 512, 513, 1024, 5000, 32767, 32768} {
			text := s[:dist] + s[:3] + "\x8f" + s[3:dist] + s[3:50]
			all := hold(t, text, level)
			found := map[api.Token]bool{}
			for _, p := range all {
				for _, x := range p.tokens {
					found[x] = true
				}
			}
			if !found[api.Token{Len: 3, Dist: dist}] {
				t.Errorf("level %d: no match from %d back", level, dist)
			}
		}
		for _, p := range hold(t, s[:32769]+s[:3], level) {
			for _, x := range p.tokens {
				if x.Len > 0 {
					t.Errorf("level %d: a match from %d back", level, x.Dist)
				}
			}
		}
	}
}

func TestPackTextsOfChance(t *testing.T) {
	random := rand.New(rand.NewSource(110))
	for i := range 400 {
		n := random.Intn(1 + 10*i)
		texts := []string{
			chance(random, n, 1+random.Intn(256)),
			speech(random, n),
			strings.Repeat(chance(random, 1+random.Intn(700), 256), 1+random.Intn(9)),
			once(random, n/2, span(0, 255)) + speech(random, n/2),
		}
		for j, s := range texts {
			hold(t, s, (i+j)%10)
		}
	}
}

// P10.2

// Texts that cost most: bytes that no code makes fewer of, in blocks that are full, or of one token.
func TestPackIsNeverLong(t *testing.T) {
	random := rand.New(rand.NewSource(111))
	for _, level := range []int{0, 1, 4, 9} {
		for _, n := range []int{0, 1, 2, 3, 511, 512, 513, 1024, 1025, 10240, 65535, 65536, 70000} {
			for _, of := range []string{span(0, 255), span(144, 255), span(200, 255)} {
				holdShort(t, once(random, n, of), level)
			}
			holdShort(t, chance(random, n, 256), level)
			holdShort(t, speech(random, n), level)
			holdShort(t, strings.Repeat("\xff", n), level)
		}
	}
}

// A stored block's beginning is all that a text of such bytes has beside them.
func TestPackAddsFiveBytesForEachBlock(t *testing.T) {
	random := rand.New(rand.NewSource(112))
	for level := 1; level <= 9; level++ {
		for n := 1; n <= 20; n++ {
			s := once(random, 512*n, span(0, 255))
			if out := packed(t, s, level); len(out) != len(s)+5*n {
				t.Errorf("%d bytes by %d: %d", len(s), level, len(out))
			}
		}
	}
}

// P1

// A call hangs on its arguments alone: others in between, and at the same time, change nothing.
func TestNothingIsKeptBetweenCalls(t *testing.T) {
	s := speech(rand.New(rand.NewSource(113)), 5000)
	asked := saidPack(s, 6)
	var all sync.WaitGroup
	for i := range 40 {
		all.Go(func() {
			Pack(s[i:], i%10)
			Pack(s, -1)
			if out, e := Pack(s, 6); out != asked || e != api.OK {
				t.Errorf("call %d: another answer", i)
			}
		})
	}
	all.Wait()
}

func TestLongTextsEnd(t *testing.T) {
	begin := time.Now()
	random := rand.New(rand.NewSource(114))
	long := bytes.Repeat([]byte{0}, 1<<23)
	for level, s := range map[int]string{0: string(long), 1: string(long), 9: string(long), 5: chance(random, 1<<21, 256), 6: speech(random, 1<<20)} {
		holdOpened(t, s, level)
	}
	if spent := time.Since(begin); spent > time.Minute {
		t.Error("took", spent)
	}
}

// Any bytes by any level: an answer, and the text again where there is a level.
func FuzzPack(f *testing.F) {
	f.Add("", 0)
	f.Add("a", 6)
	f.Add("abcabcabcd", 9)
	f.Add("a", 10)
	f.Add("\xff\x00", -1)
	f.Add(strings.Repeat("stevedore", 500), 4)
	f.Fuzz(func(t *testing.T, s string, level int) {
		if level < 0 || level > 9 {
			if out, e := Pack(s, level); out != "" || e != api.ErrArg {
				t.Error("an answer by", level)
			}
			level &= 7
		}
		hold(t, s, level)
	})
}
