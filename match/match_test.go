package match

import (
	"fmt"
	"math"
	"math/rand"
	"slices"
	"strings"
	"testing"
	"time"

	"stevedore/api"
)

// levels is those that differ, and some beyond both ends.
func levels() []int {
	return []int{math.MinInt, math.MinInt + 1, -64, -63, -1, 0, 1, 2, 3, 4, 5, 6, 7, 8, 9, 10, 11, 63, 64, 65, math.MaxInt - 1, math.MaxInt}
}

// places is the chapter's c, written out.
func places(level int) int {
	if level > 9 {
		return 256
	}
	if level < 1 {
		return 0
	}
	return []int{1, 2, 4, 8, 16, 32, 64, 128, 256}[level-1]
}

// saidMatch is the chapter's words: all places ahead are gone through, from the latest on.
func saidMatch(s string, at, c int) api.Token {
	var best api.Token
	for from := at - 1; from >= 0 && at-from <= 32768 && c > 0; from-- {
		if at+3 > len(s) || s[from:from+3] != s[at:at+3] {
			continue
		}
		c--
		n := 3
		for n < 258 && at+n < len(s) && s[from+n] == s[at+n] {
			n++
		}
		if n > best.Len {
			best = api.Token{Len: n, Dist: at - from}
		}
	}
	return best
}

// saidTokens is the chapter's words, each match looked for anew.
func saidTokens(s string, level int) []api.Token {
	var out []api.Token
	for at := 0; at < len(s); {
		m := saidMatch(s, at, places(level))
		if m.Len == 0 || level >= 4 && m.Len < 258 && saidMatch(s, at+1, places(level)).Len > m.Len {
			out = append(out, api.Token{Lit: s[at]})
			at++
		} else {
			out = append(out, m)
			at += m.Len
		}
	}
	return out
}

// saidExpand is the chapter's words: a text that grows by a byte at a time, asked after each token.
func saidExpand(l []api.Token, limit int) (string, api.Errno) {
	s := ""
	for _, t := range l {
		if t.Len > 0 && (t.Dist < 1 || t.Dist > len(s)) {
			return "", api.ErrFar
		}
		if t.Len <= 0 {
			s += string([]byte{t.Lit})
		}
		for i := 0; i < t.Len && len(s) <= limit; i++ {
			s += string([]byte{s[len(s)-t.Dist]})
		}
		if len(s) > limit {
			return "", api.ErrLimit
		}
	}
	return s, api.OK
}

// lits is a token of each byte.
func lits(s string) []api.Token {
	var out []api.Token
	for i := range len(s) {
		out = append(out, api.Token{Lit: s[i]})
	}
	return out
}

// far is a match.
func far(n, dist int) []api.Token {
	return []api.Token{{Len: n, Dist: dist}}
}

// joined is lists one behind the other.
func joined(lists ...[]api.Token) []api.Token {
	return slices.Concat(lists...)
}

// fill is n bytes without any three in a row that are there twice (n at most 32768 or so), made of bytes from 128 on.
func fill(n int) string {
	// Two bytes of a number with a third between that tells no number: threes at one place of the pattern differ by number, those at others by the kinds of their bytes.
	var b strings.Builder
	for i := 0; b.Len() < n; i++ {
		b.WriteByte(byte(128 + i%100))
		b.WriteByte(byte(228 + i/100%20))
		b.WriteByte(byte(228 + i/2000%20))
	}
	return b.String()[:n]
}

// short tells a text for a message.
func short(s string) string {
	if len(s) > 80 {
		return fmt.Sprintf("%q.. (%d)", s[:80], len(s))
	}
	return fmt.Sprintf("%q", s)
}

func holdTokens(t *testing.T, s string, level int, asked []api.Token) {
	t.Helper()
	l := Tokens(s, level)
	if slices.Equal(l, asked) {
		return
	}
	at := 0
	for at < len(l) && at < len(asked) && l[at] == asked[at] {
		at++
	}
	t.Fatalf("tokens of %s by %d: from the %d-th on %v (of %d), asked for %v (of %d)", short(s), level, at, l[at:min(at+5, len(l))], len(l), asked[at:min(at+5, len(asked))], len(asked))
}

// back holds that tokens are the text again (P8.3), and just as many bytes.
func back(t *testing.T, s string, l []api.Token) {
	t.Helper()
	holdExpand(t, l, len(s), s, api.OK)
	if s != "" {
		holdExpand(t, l, len(s)-1, "", api.ErrLimit)
	}
}

// holdWords holds that tokens are as the chapter's words have them, and the text again.
func holdWords(t *testing.T, s string, level int) {
	t.Helper()
	holdTokens(t, s, level, saidTokens(s, level))
	back(t, s, Tokens(s, level))
}

func holdExpand(t *testing.T, l []api.Token, limit int, asked string, e api.Errno) {
	t.Helper()
	s, f := Expand(l, limit)
	if s != asked || f != e {
		t.Fatalf("expanded %v (of %d) to %d: %s, %d; asked for %s, %d", l[:min(8, len(l))], len(l), limit, short(s), f, short(asked), e)
	}
}

// P8.1

func TestTokensExample(t *testing.T) {
	asked := joined(lits("abc"), far(6, 3), lits("d"))
	for _, level := range levels() {
		if level < 1 {
			holdTokens(t, "abcabcabcd", level, lits("abcabcabcd"))
		} else {
			holdTokens(t, "abcabcabcd", level, asked)
		}
	}
}

func TestTokensOfShortTexts(t *testing.T) {
	for _, level := range levels() {
		for _, s := range []string{"", "a", "\x00", "\xff", "aa", "ab", "aaa", "abc", "\x00\x00\x00", "aba", "abab", "abca", "abcab", "é", "日本"} {
			holdTokens(t, s, level, lits(s))
		}
	}
	holdTokens(t, "aaaa", 9, joined(lits("a"), far(3, 1)))
	holdTokens(t, "aaaa", 1, joined(lits("a"), far(3, 1)))
	holdTokens(t, "aaaa", 0, lits("aaaa"))
}

// Bytes are bytes, whether they are runes or not, and a 0 is one as well.
func TestTokensOfAnyBytes(t *testing.T) {
	for _, level := range []int{1, 4, 9} {
		holdTokens(t, "\x00\x00\x00\x00\x00", level, joined(lits("\x00"), far(4, 1)))
		holdTokens(t, "\xff\xfe\x80\xff\xfe\x80", level, joined(lits("\xff\xfe\x80"), far(3, 3)))
		holdTokens(t, "日日", level, joined(lits("日"), far(3, 3)))
		holdTokens(t, "\x00\x01\x02\x00\x01\x03", level, lits("\x00\x01\x02\x00\x01\x03"))
		holdTokens(t, "\x01\x00\x02\x00\x01\x02", level, lits("\x01\x00\x02\x00\x01\x02"))
	}
}

func TestTokensAtTheEnd(t *testing.T) {
	for _, level := range []int{1, 3, 4, 9, 10} {
		holdTokens(t, "abcxabc", level, joined(lits("abcx"), far(3, 4)))
		holdTokens(t, "abcxab", level, lits("abcxab"))
		holdTokens(t, "abcxabcy", level, joined(lits("abcx"), far(3, 4), lits("y")))
		holdTokens(t, "abcxabcab", level, joined(lits("abcx"), far(3, 4), lits("ab")))
	}
}

func TestTokensIntoThemselves(t *testing.T) {
	for _, level := range []int{1, 3, 4, 9, 10} {
		for n := 3; n <= 258; n++ {
			holdTokens(t, strings.Repeat("a", 1+n), level, joined(lits("a"), far(n, 1)))
			holdTokens(t, strings.Repeat("ab", 200)[:2+n], level, joined(lits("ab"), far(n, 2)))
			holdTokens(t, strings.Repeat("abcde", 80)[:5+n], level, joined(lits("abcde"), far(n, 5)))
		}
	}
}

// Longer than one match: what is left is the next one, or bytes.
func TestTokensOfTheMostBytes(t *testing.T) {
	for _, level := range []int{1, 3, 4, 9, 10} {
		row := func(n int) string { return strings.Repeat("a", 1+n) }
		holdTokens(t, row(257), level, joined(lits("a"), far(257, 1)))
		holdTokens(t, row(258), level, joined(lits("a"), far(258, 1)))
		holdTokens(t, row(259), level, joined(lits("a"), far(258, 1), lits("a")))
		holdTokens(t, row(260), level, joined(lits("a"), far(258, 1), lits("aa")))
		holdTokens(t, row(261), level, joined(lits("a"), far(258, 1), far(3, 1)))
		holdTokens(t, row(516), level, joined(lits("a"), far(258, 1), far(258, 1)))
		for _, n := range []int{3, 4, 256, 257, 258} {
			s := fill(n)
			holdTokens(t, s+"!"+s, level, joined(lits(s+"!"), far(n, n+1)))
			holdTokens(t, s+"!"+s+"?", level, joined(lits(s+"!"), far(n, n+1), lits("?")))
		}
		s := fill(259)
		holdTokens(t, s+"!"+s, level, joined(lits(s+"!"), far(258, 260), lits(s[258:])))
		s = fill(261)
		holdTokens(t, s+"!"+s, level, joined(lits(s+"!"), far(258, 262), far(3, 262)))
	}
}

// The fill that the tests of far places lean on has no match in itself.
func TestFillHasNoMatches(t *testing.T) {
	s := fill(33000)
	at := map[string]int{}
	for i := 0; i+3 <= len(s); i++ {
		if from, is := at[s[i:i+3]]; is {
			t.Fatal("the same three bytes at", from, "and", i)
		}
		at[s[i:i+3]] = i
	}
}

func TestTokensFarBack(t *testing.T) {
	for _, level := range []int{1, 3, 4, 9, 10} {
		for _, n := range []int{32766, 32767, 32768, 32769, 32770, 32900} {
			s := "abc" + fill(n-3) + "abc"
			asked := lits(s)
			if n <= 32768 {
				asked = joined(lits(s[:n]), far(3, n))
			}
			holdTokens(t, s, level, asked)
			// The same with bytes ahead, and a match that goes on.
			s = "!!" + "abcd" + fill(n-4) + "abcd?"
			asked = lits(s)
			if n <= 32768 {
				asked = joined(lits(s[:n+2]), far(4, n), lits("?"))
			}
			holdTokens(t, s, level, asked)
		}
	}
}

// A place that is too far isn't taken, though its match is longer, nor by way of one that is near enough.
func TestTokensFarBackBehindAnother(t *testing.T) {
	for _, n := range []int{32767, 32768, 32769} {
		between := fill(n - 8)
		s := "abcd" + "abcx" + between + "abcd"
		for level := 1; level <= 10; level++ {
			asked := joined(lits("abcd"), far(3, 4), lits("x"+between))
			// By one place the nearer one alone is asked.
			if n <= 32768 && level > 1 {
				asked = joined(asked, far(4, n))
			} else {
				asked = joined(asked, far(3, n-4), lits("d"))
			}
			holdTokens(t, s, level, asked)
		}
	}
}

func TestTokensOfEqualsTheNearest(t *testing.T) {
	for _, level := range []int{1, 2, 3, 4, 9, 10} {
		// Both of 3 bytes; the second of these is a match of the first.
		holdTokens(t, "abc1abc2abc3", level, joined(lits("abc1"), far(3, 4), lits("2"), far(3, 4), lits("3")))
	}
	for _, level := range []int{2, 3, 4, 9, 10} {
		// 3, 5, 5 bytes from the left, then 4: the nearer one of 5.
		s := "abcXabcdeYabcdeZabcdWabcde"
		asked := joined(lits("abcX"), far(3, 4), lits("deY"), far(5, 6), lits("Z"), far(4, 6), lits("W"), far(5, 11))
		holdTokens(t, s, level, asked)
		holdTokens(t, s+"!", level, joined(asked, lits("!")))
	}
	// Up to the end all have 4 bytes there: the nearest.
	holdTokens(t, "abcdeYabcdXabcd", 9, joined(lits("abcdeY"), far(4, 6), lits("X"), far(4, 5)))
}

// The longest is the c-th latest place, or the one ahead of that: of each level the first is found, the second isn't.
func TestTokensOfTheLatestPlaces(t *testing.T) {
	for _, level := range levels() {
		c := places(level)
		for _, nearer := range []int{c - 1, c, c + 1, 0, 1, 2, 300} {
			if nearer < 0 {
				continue
			}
			var b strings.Builder
			b.WriteString("abcde")
			for i := range nearer {
				// Each goes on in its own way, so that none but the first has four bytes.
				b.WriteString("\x00abc" + string([]byte{byte(128 + i%100), byte(128 + i/100)}))
			}
			b.WriteString("\x01abcde")
			s := b.String()
			holdWords(t, s, level)
			l := Tokens(s, level)
			long := l[len(l)-1] == api.Token{Len: 5, Dist: len(s) - 5}
			if long != (nearer < c) {
				t.Fatalf("level %d, %d nearer places: %v", level, nearer, l[len(l)-3:])
			}
		}
	}
}

// Places within matches are places too.
func TestTokensFromWithinMatches(t *testing.T) {
	for _, level := range []int{1, 4, 9} {
		holdTokens(t, "abcdef-abcdef-cde", level, joined(lits("abcdef-"), far(7, 7), far(3, 5)))
		holdTokens(t, "aaaaaaa-aaa", level, joined(lits("a"), far(6, 1), lits("-"), far(3, 4)))
	}
}

func TestTokensThatWait(t *testing.T) {
	// At abc 3 bytes, at bcd 4.
	s := "bcdeXabcYabcde"
	early := joined(lits("bcdeXabcY"), far(3, 4), lits("de"))
	late := joined(lits("bcdeXabcY"), lits("a"), far(4, 10))
	for _, level := range levels() {
		switch {
		case level < 1:
			holdTokens(t, s, level, lits(s))
		case level < 4:
			holdTokens(t, s, level, early)
		case level >= 4:
			holdTokens(t, s, level, late)
		}
	}
	// One as long at the next place is no reason to wait.
	s = "bcdXabcYabcdZ"
	for level := 1; level <= 12; level++ {
		holdTokens(t, s, level, joined(lits("bcdXabcY"), far(3, 4), lits("dZ")))
	}
	// Nor one that is shorter.
	s = "bcdXabcdYabcdZ"
	for level := 1; level <= 12; level++ {
		holdTokens(t, s, level, joined(lits("bcdXa"), far(3, 5), lits("Y"), far(4, 5), lits("Z")))
	}
}

// It waits again and again, as long as the next one is longer.
func TestTokensThatWaitOften(t *testing.T) {
	s := "abc1bcde2cdefg3defghi4abcdefghi5"
	ahead := joined(lits("abc1bcde2"), far(3, 4), lits("fg3"), far(4, 5), lits("hi4"))
	for level := 1; level <= 3; level++ {
		holdTokens(t, s, level, joined(ahead, far(3, 22), far(6, 10), lits("5")))
	}
	for level := 4; level <= 10; level++ {
		holdTokens(t, s, level, joined(ahead, lits("abc"), far(6, 10), lits("5")))
	}
}

func TestTokensThatWaitAtTheMost(t *testing.T) {
	long := fill(300)
	for level := 1; level <= 12; level++ {
		// 258 and more at this place, and at the next one: nothing waits.
		s := long + "!" + long
		holdTokens(t, s, level, joined(lits(long+"!"), far(258, 301), far(42, 301)))
	}
	for _, n := range []int{255, 256, 257, 258} {
		// n bytes at a place, from the first of these; 258 from the second one at the next place.
		tail := long[:n-1]
		s := long + "!" + "a" + tail + "?" + "a" + long[:258] + "."
		for level := 1; level <= 12; level++ {
			holdWords(t, s, level)
			l := Tokens(s, level)
			waits := slices.Contains(l, api.Token{Len: 258, Dist: len(long) + 1 + 1 + len(tail) + 1 + 1})
			if waits != (level >= 4 && n < 258) {
				t.Fatalf("level %d, a match of %d bytes: waits %v", level, n, waits)
			}
		}
	}
}

// randomText is pieces of a few bytes, or of what there is already.
func randomText(random *rand.Rand, n, kinds int) string {
	var b []byte
	for len(b) < n {
		switch {
		case len(b) > 0 && random.Intn(3) == 0:
			from := random.Intn(len(b))
			for i := range random.Intn(12) * random.Intn(30) {
				b = append(b, b[from+i])
			}
		default:
			for range 1 + random.Intn(6) {
				b = append(b, byte(random.Intn(kinds)*255/kinds))
			}
		}
	}
	return string(b[:n])
}

func TestTokensAreTheWords(t *testing.T) {
	random := rand.New(rand.NewSource(81))
	for range 3000 {
		s := randomText(random, random.Intn(600), 1+random.Intn(20))
		holdWords(t, s, random.Intn(13)-1)
	}
	for _, level := range levels() {
		for range 20 {
			holdWords(t, randomText(random, 300+random.Intn(600), 1+random.Intn(5)), level)
		}
	}
}

// All texts of two kinds of bytes, and of three, as long as there are few enough of them.
func TestTokensOfAllShortTexts(t *testing.T) {
	for _, most := range [][2]int{{2, 12}, {3, 8}} {
		for n := range most[1] + 1 {
			b := make([]byte, n)
			for more := true; more; {
				for _, level := range []int{0, 1, 3, 4, 9} {
					holdWords(t, string(b), level)
				}
				more = false
				for i := range b {
					b[i] = (b[i] + 1) % byte(most[0])
					if b[i] > 0 {
						more = true
						break
					}
				}
			}
		}
	}
}

// Texts longer than matches reach.
func TestTokensOfLongTextsAreTheWords(t *testing.T) {
	random := rand.New(rand.NewSource(82))
	for _, level := range []int{1, 3, 4, 9} {
		holdWords(t, randomText(random, 40000, 4), level)
	}
	a := fill(32700)
	holdWords(t, a+a[:200]+a[100:400], 4)
}

// P8.2

func TestExpandExamples(t *testing.T) {
	l := joined(lits("abc"), far(6, 3), lits("d"))
	holdExpand(t, l, 10, "abcabcabcd", api.OK)
	holdExpand(t, l, 9, "", api.ErrLimit)
	holdExpand(t, l, 11, "abcabcabcd", api.OK)
	holdExpand(t, l, math.MaxInt, "abcabcabcd", api.OK)
	holdExpand(t, nil, 0, "", api.OK)
	holdExpand(t, []api.Token{}, 7, "", api.OK)
}

func TestExpandBytes(t *testing.T) {
	for b := range 256 {
		one := string([]byte{byte(b)})
		holdExpand(t, lits(one), 1, one, api.OK)
		holdExpand(t, joined(lits("x"+one+"y"), far(4, 2)), 7, "x"+one+"y"+one+"y"+one+"y", api.OK)
	}
}

// A match has bytes of its own behind as soon as it is longer than far; its Lit has no meaning.
func TestExpandIntoThemselves(t *testing.T) {
	for n := 1; n <= 600; n++ {
		holdExpand(t, joined(lits("a"), far(n, 1)), 1+n, strings.Repeat("a", 1+n), api.OK)
		holdExpand(t, joined(lits("xab"), far(n, 2)), 3+n, "x"+strings.Repeat("ab", 400)[:2+n], api.OK)
		holdExpand(t, joined(lits("xab"), []api.Token{{Len: n, Dist: 3, Lit: 'q'}}), 3+n, strings.Repeat("xab", 400)[:3+n], api.OK)
	}
	// Longer and further than a token of Tokens is.
	s := fill(33000)
	holdExpand(t, joined(lits(s), far(66000, 33000)), 99000, s+s+s, api.OK)
}

func TestExpandFar(t *testing.T) {
	for n := range 6 {
		ahead := lits("abcde"[:n])
		for _, dist := range []int{math.MinInt, math.MinInt + 1, -32768, -n, -1, 0, n + 1, n + 2, 32768, 1 << 32, 1<<32 + 1, math.MaxInt - 1, math.MaxInt} {
			if dist >= 1 && dist <= n {
				continue
			}
			for _, size := range []int{1, 2, 3, 258, math.MaxInt} {
				holdExpand(t, joined(ahead, far(size, dist)), 999, "", api.ErrFar)
				holdExpand(t, joined(ahead, far(size, dist), lits("z")), 999, "", api.ErrFar)
			}
		}
		for dist := 1; dist <= n; dist++ {
			asked := "abcde"[:n] + "abcde"[n-dist:n]
			holdExpand(t, joined(ahead, far(dist, dist)), 2*n, asked, api.OK)
		}
	}
	// What matches bring counts too.
	holdExpand(t, joined(lits("ab"), far(3, 2), far(1, 5)), 6, "ababaa", api.OK)
	holdExpand(t, joined(lits("ab"), far(3, 2), far(1, 6)), 6, "", api.ErrFar)
	holdExpand(t, far(1, 1), 6, "", api.ErrFar)
	holdExpand(t, far(1, 0), 6, "", api.ErrFar)
}

// A Len of 0 or below is a byte, whatever stands in Dist.
func TestExpandOfNoMatch(t *testing.T) {
	for _, n := range []int{math.MinInt, math.MinInt + 1, -258, -2, -1, 0} {
		for _, dist := range []int{math.MinInt, -1, 0, 1, 5, math.MaxInt} {
			one := []api.Token{{Len: n, Dist: dist, Lit: 'q'}}
			holdExpand(t, one, 1, "q", api.OK)
			holdExpand(t, one, 0, "", api.ErrLimit)
			holdExpand(t, joined(lits("a"), one, far(2, 2), one), 5, "aqaqq", api.OK)
			holdExpand(t, joined(lits("a"), one, far(2, 2), one), 4, "", api.ErrLimit)
			holdExpand(t, joined(lits("a"), one, far(2, 3)), 9, "", api.ErrFar)
		}
	}
}

func TestExpandLimits(t *testing.T) {
	for _, l := range [][]api.Token{lits("a"), lits("abcd"), joined(lits("a"), far(3, 1)), joined(lits("ab"), far(258, 2), lits("x")), joined(lits("ab"), far(258, 2), far(258, 260))} {
		asked, _ := saidExpand(l, 1<<20)
		n := len(asked)
		for _, limit := range []int{n, n + 1, n + 2, 1 << 30, 1 << 32, math.MaxInt - 1, math.MaxInt} {
			holdExpand(t, l, limit, asked, api.OK)
		}
		for limit := range n {
			holdExpand(t, l, limit, "", api.ErrLimit)
		}
		for _, limit := range []int{-1, -2, -n, -n - 1, math.MinInt, math.MinInt + 1, math.MinInt + n} {
			holdExpand(t, l, limit, "", api.ErrLimit)
		}
	}
	// Without tokens there is no byte that might be beyond the limit.
	for _, limit := range []int{math.MinInt, -1, 0, 1, math.MaxInt} {
		holdExpand(t, nil, limit, "", api.OK)
	}
}

func TestExpandWhichErrorComesFirst(t *testing.T) {
	for _, limit := range []int{math.MinInt, -1, 0} {
		holdExpand(t, far(3, 1), limit, "", api.ErrFar)
		holdExpand(t, joined(lits("a"), far(3, 2)), limit, "", api.ErrLimit)
	}
	// One token with both.
	holdExpand(t, joined(lits("abc"), far(5, 4)), 3, "", api.ErrFar)
	holdExpand(t, joined(lits("abc"), far(5, 0)), 7, "", api.ErrFar)
	holdExpand(t, joined(lits("abc"), far(math.MaxInt, math.MaxInt)), 7, "", api.ErrFar)
	// Two tokens, either way round.
	holdExpand(t, joined(lits("abc"), far(5, 3), far(5, 0)), 7, "", api.ErrLimit)
	holdExpand(t, joined(lits("abc"), far(5, 3), far(5, 0)), 8, "", api.ErrFar)
	holdExpand(t, joined(lits("abc"), far(1, 4), far(5, 3)), 7, "", api.ErrFar)
	holdExpand(t, joined(lits("abcd"), far(1, 99)), 3, "", api.ErrLimit)
	holdExpand(t, joined(lits("abcd"), far(1, 99)), 4, "", api.ErrFar)
}

// What is refused takes no memory, however many bytes the matches claim ahead of the error.
func TestExpandOfClaims(t *testing.T) {
	for _, n := range []int{1 << 31, 1 << 40, math.MaxInt - 3, math.MaxInt - 2, math.MaxInt - 1, math.MaxInt} {
		for _, limit := range []int{math.MinInt, -1, 0, 2, 3, 1 << 20, n - 1} {
			holdExpand(t, joined(lits("a"), far(n, 1)), limit, "", api.ErrLimit)
		}
		holdExpand(t, joined(lits("a"), far(1<<31, 1), far(n, 0)), math.MaxInt, "", api.ErrFar)
	}
	holdExpand(t, joined(lits("a"), far(math.MaxInt, 1)), math.MaxInt, "", api.ErrLimit)
	holdExpand(t, joined(lits("a"), far(math.MaxInt-1, 1), lits("b")), math.MaxInt, "", api.ErrLimit)
	holdExpand(t, joined(lits("a"), far(math.MaxInt-1, 1), far(math.MaxInt, 1)), math.MaxInt, "", api.ErrLimit)
	holdExpand(t, joined(lits("a"), far(math.MaxInt-1, 1), far(1, -1)), math.MaxInt, "", api.ErrFar)
}

func TestExpandIsTheWords(t *testing.T) {
	random := rand.New(rand.NewSource(83))
	var seen [17]int
	for range 50000 {
		l := make([]api.Token, random.Intn(8))
		for i := range l {
			l[i].Lit = byte(random.Intn(256))
			if random.Intn(3) == 0 {
				l[i].Len, l[i].Dist = random.Intn(20)-3, random.Intn(6+i)
			}
			if random.Intn(40) == 0 {
				l[i].Dist = random.Intn(40) - 20
			}
		}
		limit := random.Intn(40) - 2
		asked, e := saidExpand(l, limit)
		seen[e]++
		holdExpand(t, l, limit, asked, e)
	}
	if min(seen[api.OK], seen[api.ErrFar], seen[api.ErrLimit]) < 4000 {
		t.Error("too few of a kind:", seen)
	}
}

// P8.3

func TestTokensAreTheTextAgain(t *testing.T) {
	random := rand.New(rand.NewSource(84))
	for _, level := range levels() {
		for range 30 {
			s := randomText(random, random.Intn(5000), 1+random.Intn(256))
			back(t, s, Tokens(s, level))
		}
		s := randomText(random, 100000, 1+random.Intn(256))
		back(t, s, Tokens(s, level))
	}
}

// What layer 9 asks of tokens: matches of 3 to 258 bytes, from 1 to 32768 back; bytes without Dist; no match at all below level 1.
func TestTokensHoldTheirBounds(t *testing.T) {
	random := rand.New(rand.NewSource(85))
	for _, level := range levels() {
		s := randomText(random, 70000, 3)
		for _, m := range Tokens(s, level) {
			is := m.Len == 0 && m.Dist == 0
			if level >= 1 && m.Lit == 0 {
				is = is || m.Len >= 3 && m.Len <= 258 && m.Dist >= 1 && m.Dist <= 32768
			}
			if !is {
				t.Fatalf("by level %d: %v", level, m)
			}
		}
	}
}

// P1, and the rules.

func TestNothingIsChangedOrKept(t *testing.T) {
	made := func() []api.Token { return joined(lits("abc"), far(6, 3), lits("d"), lits("zzzz")) }
	room := made()
	s, _ := Expand(room[:5], 10)
	if !slices.Equal(room, made()) {
		t.Fatal("expand changes what it is given:", room)
	}
	room[0].Lit = 'q'
	if s != "abcabcabcd" {
		t.Fatal("expand keeps what it is given:", s)
	}
	a := Tokens("abcabcabcd", 1)
	b := Tokens("abcabcabcd", 1)
	a[0].Lit = 'q'
	if b[0].Lit != 'a' || Tokens("abcabcabcd", 1)[0].Lit != 'a' {
		t.Error("two answers share memory")
	}
}

// A call hangs on its arguments alone: texts asked in between change nothing.
func TestNothingIsKeptBetweenCalls(t *testing.T) {
	random := rand.New(rand.NewSource(86))
	s := randomText(random, 5000, 4)
	first := Tokens(s, 9)
	for range 20 {
		Tokens(randomText(random, 5000, 4), random.Intn(10))
		holdTokens(t, s, 9, first)
	}
}

// Long texts end soon, those too at whose places much is the same.
func TestLongTextsEnd(t *testing.T) {
	begin := time.Now()
	random := rand.New(rand.NewSource(87))
	for _, s := range []string{
		strings.Repeat("a", 3000000),
		strings.Repeat("ab", 1000000),
		strings.Repeat(strings.Repeat("a", 257)+"b", 2000),
		strings.Repeat(fill(120), 5000),
		randomText(random, 1000000, 2),
		randomText(random, 1000000, 256),
	} {
		for _, level := range []int{0, 1, 9} {
			back(t, s, Tokens(s, level))
		}
	}
	if spent := time.Since(begin); spent > 2*time.Minute {
		t.Error("took", spent)
	}
}

func TestNothingPanics(t *testing.T) {
	numbers := []int{math.MinInt, math.MinInt + 1, math.MinInt32, -258, -1, 0, 1, 2, 3, 257, 258, 259, 32768, 32769, math.MaxInt32, math.MaxInt32 + 1, math.MaxInt - 1, math.MaxInt}
	for _, a := range numbers {
		for _, s := range []string{"", "a", "aa", "aaa", "aaaa", "abcabc", "abcabcabcd"} {
			Tokens(s, a)
		}
		for _, b := range numbers {
			for _, limit := range numbers {
				// A text of so many bytes is beyond what is promised.
				if b > 1<<20 && limit > 1<<20 {
					continue
				}
				Expand([]api.Token{{Len: b, Dist: a, Lit: 'x'}}, limit)
				Expand([]api.Token{{Lit: 'x'}, {Len: b, Dist: 1}, {Len: b, Dist: a}}, limit)
			}
		}
	}
}
