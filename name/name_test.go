package name

import (
	"fmt"
	"math/rand"
	"strings"
	"sync"
	"testing"
)

// short tells a text for a message.
func short(s string) string {
	if len(s) > 80 {
		return fmt.Sprintf("%q.. (%d)", s[:80], len(s))
	}
	return fmt.Sprintf("%q", s)
}

// answers is what the four calls tell: note, name, ascii, file.
type answers struct{ note, right, ascii, file bool }

func told(s string) answers {
	return answers{Note(s), Right(s), Ascii(s), File(s)}
}

func said(s string) answers {
	return answers{saidNote(s), saidRight(s), saidAscii(s), saidFile(s)}
}

// holdSaid holds all four calls against the chapter's words.
func holdSaid(t *testing.T, s string) {
	t.Helper()
	if a, asked := told(s), said(s); a != asked {
		t.Errorf("%s: %+v, asked for %+v", short(s), a, asked)
	}
}

// hold holds one call at several texts.
func hold(t *testing.T, what string, call func(string) bool, asked bool, texts ...string) {
	t.Helper()
	for _, s := range texts {
		if call(s) != asked {
			t.Errorf("%s of %s: %v, asked for %v", what, short(s), !asked, asked)
		}
		holdSaid(t, s)
	}
}

func holdNote(t *testing.T, asked bool, texts ...string) {
	t.Helper()
	hold(t, "Note", Note, asked, texts...)
}

func holdRight(t *testing.T, asked bool, texts ...string) {
	t.Helper()
	hold(t, "Right", Right, asked, texts...)
}

func holdAscii(t *testing.T, asked bool, texts ...string) {
	t.Helper()
	hold(t, "Ascii", Ascii, asked, texts...)
}

func holdFile(t *testing.T, asked bool, texts ...string) {
	t.Helper()
	hold(t, "File", File, asked, texts...)
}

// many is a text n times.
func many(s string, n int) string {
	return strings.Repeat(s, n)
}

// P12.1: ordinary texts.

func TestExamples(t *testing.T) {
	holdRight(t, true, "a/b.txt")
	holdRight(t, false, "a/../b", "/a")
}

func TestOrdinaryNames(t *testing.T) {
	holdRight(t, true, "a", "b.txt", "a b", " ", "  ", "a/b/c/d", "~", "!", "\"'*?<>|", "%2e%2e", "a/b c/d.e", "na\u00efve.txt", "\u65e5\u672c/\u8a9e", "\U0001f6a2")
	holdRight(t, false, "a:b", "c:", ":", "\\", "a\\b", "..\\a", "a/b\\c", "a\tb", "a\n", "\r", "a\x00", "caf\xe9")
}

func TestOrdinaryNotes(t *testing.T) {
	holdNote(t, true, "", "a", "A comment, of some words.", "/", "//", ".", "..", "/a", "a/", "a/../b", "c:\\a", ":", "\\", "na\u00efve", "\u65e5\u672c\u8a9e", "\U0001f6a2")
	holdNote(t, false, "a\nb", "a\n", "\t", "\x00", "a\x7fb", "caf\xe9", "two\r\nlines", "\x1b[1m")
}

func TestOrdinaryBytesBelow128(t *testing.T) {
	holdAscii(t, true, "", "a", "A comment, of some words.", "a/../b", ":\\", "\x00", "\n", "\x7f", "a\x00\x1f\x7f", many("a", 100000))
	holdAscii(t, false, "\u00e9", "caf\u00e9", "\u00e9a", "a\u00e9a", "\x80", "\xff", "a\xff", "\xffa", "\u65e5\u672c\u8a9e", "\U0001f6a2")
	holdAscii(t, false, many("a", 100000)+"\x80", "\x80"+many("a", 100000), many("a", 100000)+"\xff"+many("a", 100000))
}

func TestOrdinaryFiles(t *testing.T) {
	holdFile(t, true, "a.zip", "archive.zip", "two words.zip", "a.b.zip", "\u00e9.zip", "\u65e5\u672c\u8a9e.zip", "a.zip.zip", "..zip", "...zip", " .zip")
	holdFile(t, false, "", "a", "a.tar", "a.zi", "azip", "a.zip ", "a.zip\x00", "a/b.zip", "a.zip/", "c:a.zip", "a\\b.zip", "a\n.zip", "\xe9.zip")
}

// P12.1: right UTF-8, at its edges.

// edges is the first and the last characters of one, two, three and four bytes, those beside the surrogates, and the one that stands for what isn't right.
func edges() []int {
	return []int{0x20, 0x7e, 0x80, 0x7ff, 0x800, 0xfff, 0x1000, 0xd7ff, 0xe000, 0xfffd, 0xfffe, 0xffff, 0x10000, 0x3ffff, 0x40000, 0xfffff, 0x100000, 0x10ffff}
}

// around is texts that have s alone, at the beginning, in the midst and at the end, beside characters of one and of several bytes, and beside a /.
func around(s string) []string {
	return []string{s, s + "b", "a" + s, "a" + s + "b", s + s, "\u00e9" + s + "\u00e9", "\U0001f6a2" + s + "\U0001f6a2", "a/" + s + "b", "a" + s + "/b"}
}

// files is texts as files.
func files(texts []string) []string {
	var out []string
	for _, s := range texts {
		out = append(out, s+".zip")
	}
	return out
}

func TestEdgesOfCharacters(t *testing.T) {
	for _, c := range edges() {
		s := string(rune(c))
		if s != written(c) {
			t.Fatalf("%x is written as %q", c, written(c))
		}
		holdNote(t, true, around(s)...)
		holdRight(t, true, around(s)...)
		holdFile(t, true, s+".zip", s+s+".zip", "a"+s+".zip", s+"b.zip")
		holdAscii(t, c < 128, s, "a"+s+"b")
	}
	// The first and the last character of one byte are right UTF-8, and aren't let in for what they are.
	for _, s := range []string{"\x00", "\x7f"} {
		holdNote(t, false, around(s)...)
		holdRight(t, false, around(s)...)
		holdFile(t, false, files(around(s))...)
		holdAscii(t, true, s, "a"+s+"b")
	}
}

// holdWrong holds that bytes that are no right UTF-8 are let in nowhere.
func holdWrong(t *testing.T, s string) {
	t.Helper()
	holdNote(t, false, around(s)...)
	holdRight(t, false, around(s)...)
	holdFile(t, false, files(around(s))...)
	holdAscii(t, false, around(s)...)
}

func TestCharactersCutShort(t *testing.T) {
	for _, c := range edges() {
		s := string(rune(c))
		for i := 1; i < len(s); i++ {
			holdWrong(t, s[:i])
			holdWrong(t, s[i:])
			holdWrong(t, s+s[:i])
			holdWrong(t, s[:i]+s)
			holdWrong(t, s+s[i:])
			for _, b := range []byte{' ', '.', '/', 0x7e, 0xc2, 0xff} {
				holdWrong(t, s[:i]+string([]byte{b})+s[i+1:])
			}
		}
	}
}

func TestBytesThatNoneBeginsWith(t *testing.T) {
	for b := 0x80; b <= 0xff; b++ {
		if b >= 0xc2 && b <= 0xf4 {
			continue
		}
		for tail := range 5 {
			holdWrong(t, string([]byte{byte(b)})+many("\x80", tail))
			holdWrong(t, string([]byte{byte(b)})+many("\xbf", tail))
		}
	}
}

func TestMoreBytesThanNeeded(t *testing.T) {
	for _, s := range []string{
		"\xc0\x80", "\xc0\xaf", "\xc0\xae", "\xc1\xa1", "\xc1\xbf",
		"\xe0\x80\x80", "\xe0\x81\xbf", "\xe0\x82\x80", "\xe0\x9f\xbf",
		"\xf0\x80\x80\x80", "\xf0\x80\x9f\xbf", "\xf0\x80\xa0\x80", "\xf0\x8f\xbf\xbf",
		"\xf8\x80\x80\x80\xaf", "\xfc\x80\x80\x80\x80\xaf",
	} {
		holdWrong(t, s)
	}
}

func TestSurrogates(t *testing.T) {
	for c := 0xd800; c <= 0xdfff; c++ {
		s := written(c)
		holdNote(t, false, s, "a"+s+"b")
		holdRight(t, false, s, "a"+s+"b")
		holdFile(t, false, s+".zip")
	}
	for _, s := range []string{"\xed\xa0\x80", "\xed\xaf\xbf", "\xed\xb0\x80", "\xed\xbf\xbf", "\xed\xa0\x80\xed\xb0\x80"} {
		holdWrong(t, s)
	}
}

func TestBeyondTheLastCharacter(t *testing.T) {
	for _, s := range []string{"\xf4\x90\x80\x80", "\xf4\xbf\xbf\xbf", "\xf5\x80\x80\x80", "\xf7\xbf\xbf\xbf", "\xf8\x88\x80\x80\x80", "\xfb\xbf\xbf\xbf\xbf", "\xfc\x84\x80\x80\x80\x80", "\xfd\xbf\xbf\xbf\xbf\xbf", "\xfe", "\xff", "\xef\xbf\xbd\xff"} {
		holdWrong(t, s)
	}
}

// All numbers that four bytes can tell, each as a text of its own and between others.
func TestAllCharacters(t *testing.T) {
	for c := range 1 << 21 {
		s := written(c)
		is := isCharacter(c) && c >= 32 && c != 127
		if Note(s) != is || Note("a"+s+"\u00e9") != is {
			t.Fatalf("%x as a comment: asked for %v", c, is)
		}
		is = is && c != ':' && c != '\\'
		if Right("a"+s+"\u00e9") != is {
			t.Fatalf("%x as a name: asked for %v", c, is)
		}
		if File("a"+s+".zip") != (is && c != '/') {
			t.Fatalf("%x as a file: asked for %v", c, is && c != '/')
		}
		if Ascii(s) != (c < 128) {
			t.Fatalf("%x: asked for %v", c, c < 128)
		}
	}
}

// All texts of at most three bytes.
func TestAllShortTexts(t *testing.T) {
	holdSaid(t, "")
	var group sync.WaitGroup
	for a := range 256 {
		group.Go(func() {
			holdSaid(t, string([]byte{byte(a)}))
			for b := range 256 {
				holdSaid(t, string([]byte{byte(a), byte(b)}))
				for c := range 256 {
					s := string([]byte{byte(a), byte(b), byte(c)})
					if told(s) != said(s) {
						t.Errorf("%q: %+v, asked for %+v", s, told(s), said(s))
						return
					}
				}
			}
		})
	}
	group.Wait()
}

// All texts of four and five bytes whose first may begin a character of three or four, by bytes from all sides of what may follow.
func TestTextsOfFourBytes(t *testing.T) {
	sides := []byte{0x00, 0x1f, 0x20, 0x2f, 0x7f, 0x80, 0x8f, 0x90, 0x9f, 0xa0, 0xaf, 0xbf, 0xc0, 0xc2, 0xe0, 0xff}
	for a := 0xe0; a <= 0xff; a++ {
		for b := range 256 {
			for _, c := range sides {
				for _, d := range sides {
					s := string([]byte{byte(a), byte(b), c, d})
					holdSaid(t, s)
					holdSaid(t, "x"+s)
					holdSaid(t, s+"\xbf")
				}
			}
		}
	}
}

// P12.1: each byte alone, and in the midst of a text.

func TestEachByte(t *testing.T) {
	for b := range 256 {
		s := string([]byte{byte(b)})
		note := b >= 32 && b != 127 && b < 128
		holdNote(t, note, s, "a"+s+"b", "a"+s, s+"b")
		holdAscii(t, b < 128, s, "a"+s+"b", "a"+s, s+"b")
		part := note && b != ':' && b != '\\'
		holdRight(t, part, "a"+s+"b", "a/a"+s+"b/b")
		holdRight(t, part && b != '/' && b != '.', s, "a/"+s, s+"/b", "a/"+s+"/b")
		holdFile(t, part && b != '/', "a"+s+"b.zip", s+"b.zip", "a"+s+".zip", s+".zip")
	}
}

func TestBytesAtTheirEdges(t *testing.T) {
	holdNote(t, true, "\x20", "\x7e", "a\x20b", "a\x7eb", ":", "\\", "a:b", "a\\b")
	holdNote(t, false, "\x1f", "\x7f", "\x80", "\xff", "a\x1fb", "a\x7fb", "a\x80b", "a\xffb")
	holdRight(t, true, "\x20", "\x7e", "a\x20b", "a\x7eb", ";", "[", "]", "-", "0")
	holdRight(t, false, "\x1f", "\x7f", "\x80", "\xff", "a\x1fb", "a\x7fb", "a\x80b", "a\xffb", ":", "\\", "a:b", "a\\b")
	holdAscii(t, true, "\x1f", "\x20", "\x7e", "\x7f", "a\x7fb", ":", "\\")
	holdAscii(t, false, "\x80", "\xff", "a\x80b", "a\xffb")
	holdFile(t, true, "\x20.zip", "\x7e.zip", "a\x20b.zip", "a\x7eb.zip")
	holdFile(t, false, "\x1f.zip", "\x7f.zip", "\x80.zip", "\xff.zip", ":.zip", "\\.zip", "a:b.zip", "a\\b.zip")
}

// A byte that may not be is met wherever it stands.
func TestWrongBytesAtEachPlace(t *testing.T) {
	for _, wrong := range []string{"\x00", "\x1f", "\x7f", "\x80", "\xc3", "\xff"} {
		for i := range 200 {
			holdNote(t, false, many("a", i)+wrong+many("a", 199-i))
		}
		for i := range 64 {
			holdRight(t, false, many("a", i)+wrong+many("a", 63-i))
		}
		for i := range 36 {
			holdFile(t, false, many("a", i)+wrong+many("a", 35-i)+".zip")
		}
	}
	for _, wrong := range []string{":", "\\"} {
		for i := range 64 {
			holdRight(t, false, many("a", i)+wrong+many("a", 63-i))
			holdNote(t, true, many("a", i)+wrong+many("a", 63-i))
		}
	}
	for i := range 300 {
		holdAscii(t, true, many("a", i)+"\x7f"+many("a", 299-i))
		holdAscii(t, false, many("a", i)+"\x80"+many("a", 299-i), many("a", i)+"\u00e9"+many("a", 299-i))
	}
}

// P12.1: the edges of length.

// ofBytes is texts of just n bytes: of characters of one byte, and of one or as many as fit of two, three or four bytes, at the beginning and at the end.
func ofBytes(n int) []string {
	out := []string{many("a", n)}
	for _, c := range []string{"\u00e9", "\u65e5", "\U0001f6a2"} {
		for _, k := range []int{min(1, n/len(c)), n / len(c)} {
			a := many("a", n-k*len(c))
			out = append(out, many(c, k)+a, a+many(c, k))
		}
	}
	return out
}

func TestLengthsOfNotes(t *testing.T) {
	for n := range 260 {
		holdNote(t, n <= 200, ofBytes(n)...)
	}
	holdNote(t, true, "", many("a", 200), many("\u00e9", 100), many("\U0001f6a2", 50), many("\u65e5", 66)+"ab")
	// Fewer than 200 characters, or just 200, of more than 200 bytes.
	holdNote(t, false, many("a", 201), many("a", 199)+"\u00e9", many("\u00e9", 101), many("\u65e5", 67), many("\U0001f6a2", 50)+"a", many("\U0001f6a2", 51), many("\u00e9", 200), many("a", 1<<20))
}

func TestLengthsOfNames(t *testing.T) {
	for n := range 140 {
		holdRight(t, n >= 1 && n <= 64, ofBytes(n)...)
	}
	holdRight(t, true, "a", "\u00e9", many("a", 64), many("\u00e9", 32), many("\U0001f6a2", 16), many("\u65e5", 21)+"a", many("a/", 31)+"ab", many("a", 62)+"/b", "a/"+many("b", 62))
	holdRight(t, false, "", many("a", 65), many("a", 63)+"\u00e9", many("\u00e9", 33), many("\u65e5", 22), many("\U0001f6a2", 16)+"a", many("\u00e9", 64), many("a/", 32)+"a", many("a", 63)+"/b", many("a", 200), many("a", 1<<20))
}

func TestLengthsOfFiles(t *testing.T) {
	for n := range 70 {
		for _, s := range ofBytes(n) {
			holdFile(t, n >= 1 && n <= 36, s+".zip")
		}
	}
	holdFile(t, true, "a.zip", "ab.zip", "\u00e9.zip", many("a", 36)+".zip", many("\u00e9", 18)+".zip", many("\u65e5", 12)+".zip", many("\U0001f6a2", 9)+".zip", many(".zip", 10))
	// Four bytes at most, of as many characters and of fewer; and no more than 40 characters of more than 40 bytes.
	holdFile(t, false, ".zip", "zip", "", "\u00e9zi", "a.zi", "\xffzip")
	holdFile(t, false, many("a", 37)+".zip", many("a", 35)+"\u00e9.zip", many("\u00e9", 18)+"a.zip", many("\u00e9", 36)+".zip", many("\u65e5", 13)+".zip", many("\U0001f6a2", 10)+".zip", many(".zip", 10)+"a", "a"+many(".zip", 10), many("a", 60)+".zip", many("a", 61)+".zip", many("a", 1<<20)+".zip")
}

// P12.1: parts.

func TestParts(t *testing.T) {
	// Nothing at the beginning, at the end, in the midst; / alone.
	holdRight(t, false, "/", "//", "///", "/a", "a/", "a//b", "/a/b", "a/b/", "a/b//c", "a///b", "//a", "a//", "/.", "./", "/..", "../")
	// One dot, two dots, alone and at each place.
	holdRight(t, false, ".", "./a", "a/.", "a/./b", "./.", "././a", "..", "../a", "a/..", "a/../b", "../..", "a/../../b", "./..", ".../..", "..//a", ".../.")
	// Three dots and more; a dot beside other characters.
	holdRight(t, true, "...", ".../a", "a/...", "a/.../b", "....", "a.", ".a", "..a", "a..", ".a.", "a.b", "a..b", ".../...", "a/.b", "a./b", "a/b.", "..a/b", "a../b", ". ", " .", ".. ", ".\u00e9", "..\u00e9", "\u00e9.", "\u00e9..", ".\u3002")
	// None of it is asked of a comment.
	holdNote(t, true, "/", "//", "/a", "a/", "a//b", ".", "..", "./a", "a/..", "a/../b")
}

// gone calls do with all texts of at most n pieces.
func gone(pieces []string, n int, do func(string)) {
	var walk func(s string, left int)
	walk = func(s string, left int) {
		do(s)
		for _, p := range pieces {
			if left > 0 {
				walk(s+p, left-1)
			}
		}
	}
	walk("", n)
}

func TestAllRowsOfParts(t *testing.T) {
	gone([]string{"/", ".", "a"}, 10, func(s string) { holdSaid(t, s) })
	gone([]string{"/", ".", "..", "...", "\u00e9", ":", "\\"}, 6, func(s string) { holdSaid(t, s) })
}

// Each part is asked, however many there are.
func TestPartsAtEachPlace(t *testing.T) {
	for n := 1; n <= 16; n++ {
		for at := range n {
			for _, wrong := range []string{"", ".", ".."} {
				parts := strings.Split(many("a/", n-1)+"a", "/")
				holdRight(t, true, strings.Join(parts, "/"))
				parts[at] = wrong
				holdRight(t, false, strings.Join(parts, "/"))
				parts[at] = "..."
				holdRight(t, true, strings.Join(parts, "/"))
			}
		}
	}
}

// P12.1: the end of a file.

func TestEndsOfFiles(t *testing.T) {
	holdFile(t, true, "a.zip", "..zip", "-.zip", ".zip.zip", "zip.zip", "a.ZIP.zip", "a.zip.a.zip")
	// The end alone, in other letters, in the midst, with something behind it or without its dot.
	holdFile(t, false, ".zip", "a.ZIP", "a.Zip", "a.ziP", "a.zIp", ".zip.", ".zipa", "a.zip.a", "a.zip.tar", "a.zipx", "a.zip.ZIP", "azip", "a,zip", "a.zi", "a.zap", "zip.a", "a.zip ", "a.z ip", "a.\uff5aip", "a\uff0ezip")
	// A / ahead of it, and wherever else.
	holdFile(t, false, "/.zip", "a/.zip", "/a.zip", "a/b.zip", "a/b/c.zip", "./a.zip", "../a.zip", "a.zip/", "a.zip/b.zip", "a./zip", "//.zip")
	// Names with a / and .zip behind it are names nonetheless.
	holdRight(t, true, "a/.zip", "a/b.zip", ".zip", "a.zip/b.zip")
	// Not right otherwise.
	holdFile(t, false, "\xff.zip", "a\x00.zip", "\n.zip", "a\x7f.zip", "a:.zip", "a\\.zip", "\xc3.zip", "\xed\xa0\x80.zip", "\xc0\xaf.zip")
}

func TestAllRowsOfFiles(t *testing.T) {
	pieces := []string{"a", ".", "/", "\u00e9", "\xff", ":", "zip", ".zip", ".ZIP", ".zi", "p", "\x1f"}
	gone(pieces, 5, func(s string) { holdSaid(t, s) })
	gone(pieces, 3, func(s string) {
		for n := 28; n < 41; n++ {
			holdSaid(t, many("b", n)+s)
			holdSaid(t, s+many("b", n)+".zip")
		}
	})
}

// P12.2: names with / between are names.

// someNames is names of one and of several parts, of all lengths.
func someNames() []string {
	out := []string{"a", "...", ".a", "a.", "..a", " ", "~", "\u00e9", "\ufffd", "\U0010ffff", "a/b", "a/.b/c", "\u65e5/\u672c"}
	for n := 2; n <= 64; n++ {
		out = append(out, many("x", n))
	}
	return append(out, many("\u00e9", 31), many("\U0001f6a2", 15), many("a/", 31)+"b", many("\u00e9/", 20)+"b")
}

func TestNamesPutTogether(t *testing.T) {
	names := someNames()
	holdRight(t, true, names...)
	for _, a := range names {
		for _, b := range names {
			s := a + "/" + b
			holdRight(t, len(s) <= 64, s)
			for _, c := range names[:16] {
				holdRight(t, len(s+"/"+c) <= 64, s+"/"+c)
			}
		}
	}
}

func TestNamesWithWhatIsNone(t *testing.T) {
	for _, none := range []string{"", ".", "..", "/", "a/", "/a", "a//b", ":", "\\", "\n", "\x7f", "\xff", "\xc3", many("a", 65)} {
		holdRight(t, false, none)
		for _, a := range someNames() {
			holdRight(t, false, a+"/"+none, none+"/"+a, a+"/"+none+"/"+a)
		}
	}
}

// holdParts holds that the parts of a name are names, and so is what stands ahead of each / and behind it.
func holdParts(t *testing.T, s string) {
	t.Helper()
	for _, part := range strings.Split(s, "/") {
		holdRight(t, true, part)
	}
	for i := range len(s) {
		if s[i] == '/' {
			holdRight(t, true, s[:i], s[i+1:])
		}
	}
}

func TestPartsOfNamesAreNames(t *testing.T) {
	for _, s := range someNames() {
		holdParts(t, s)
	}
	names := 0
	gone([]string{"/", ".", "a", "\u00e9"}, 7, func(s string) {
		if Right(s) {
			names++
			holdParts(t, s)
		}
	})
	if names < 1000 {
		t.Errorf("only %d names", names)
	}
}

// A text is a name just where its parts are names and it is short enough.
func TestNamesByTheirParts(t *testing.T) {
	gone([]string{"/", ".", "a", "\u00e9", "\\", "\x1f", many("b", 20)}, 6, func(s string) {
		asked := len(s) <= 64
		for _, part := range strings.Split(s, "/") {
			asked = asked && Right(part)
		}
		if Right(s) != asked {
			t.Errorf("%s: %v, asked for %v", short(s), !asked, asked)
		}
	})
}

// P1.

// chance is a text of pieces of chance.
func chance(random *rand.Rand, n int) string {
	pieces := []string{"a", "b", " ", "/", ".", ".zip", "\u00e9", "\u65e5", "\U0001f6a2", "\ufffd", ":", "\\", "\x1f", "\x7f", "\x80", "\xc3", "\xe6\x97", "\xf0\x9f", "\xff"}
	kinds := 1 + random.Intn(len(pieces))
	var b strings.Builder
	for range n {
		b.WriteString(pieces[random.Intn(kinds)])
	}
	return b.String()
}

func TestTextsOfChance(t *testing.T) {
	random := rand.New(rand.NewSource(12))
	var notes, names, files int
	for range 200000 {
		s := chance(random, random.Intn(80))
		holdSaid(t, s)
		holdSaid(t, s+".zip")
		if Note(s) {
			notes++
		}
		if Right(s) {
			names++
			holdParts(t, s)
		}
		if File(s + ".zip") {
			files++
		}
	}
	if notes < 1000 || names < 1000 || files < 1000 {
		t.Errorf("only %d comments, %d names, %d files", notes, names, files)
	}
}

func TestBytesOfChance(t *testing.T) {
	random := rand.New(rand.NewSource(13))
	for range 200000 {
		s := make([]byte, random.Intn(8))
		random.Read(s)
		holdSaid(t, string(s))
		holdSaid(t, string(s)+".zip")
	}
}

// Texts of a great many bytes are answered, and soon.
func TestLongTexts(t *testing.T) {
	for _, piece := range []string{"a", "/", ".", "a/", "\u00e9", "\xff", "\x00", ".zip"} {
		s := many(piece, 1<<26/len(piece))
		if told(s) != (answers{ascii: saidAscii(piece)}) {
			t.Errorf("%q many times: %+v", piece, told(s))
		}
	}
}

// Rule 4: what a call answers hangs on its text alone.
func TestNothingIsKeptBetweenCalls(t *testing.T) {
	texts := []string{"", "a", "/a", "a/b", "a.zip", "a/..", "\xff", "\u00e9.zip", many("a", 64), many("a", 65), many("a", 200), many("a", 201), "a\n", "a:b"}
	var group sync.WaitGroup
	for k := range 8 {
		group.Go(func() {
			for i := range 2000 {
				holdSaid(t, texts[(i*(2*k+1)+k)%len(texts)])
			}
		})
	}
	group.Wait()
}

func FuzzName(f *testing.F) {
	for _, s := range append(someNames(), "", "/", "a.zip", "a/../b", "\xff", "\xed\xa0\x80", "a\n") {
		f.Add(s)
	}
	f.Fuzz(func(t *testing.T, s string) {
		holdSaid(t, s)
		if Right(s) {
			holdParts(t, s)
		}
	})
}
