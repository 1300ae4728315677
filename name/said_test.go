package name

import "strings"

// written is the bytes of the character of a number, by the rows of RFC 3629, also of numbers that no character has.
func written(c int) string {
	tail := func(by int) byte { return byte(0x80 + c/by%64) }
	switch {
	case c < 0x80:
		return string([]byte{byte(c)})
	case c < 0x800:
		return string([]byte{byte(0xc0 + c/64), tail(1)})
	case c < 0x10000:
		return string([]byte{byte(0xe0 + c/4096), tail(64), tail(1)})
	}
	return string([]byte{byte(0xf0 + c/262144), tail(4096), tail(64), tail(1)})
}

// isCharacter is whether a character has that number: not a surrogate, not one beyond the last.
func isCharacter(c int) bool {
	return c >= 0 && c <= 0x10ffff && (c < 0xd800 || c > 0xdfff)
}

// number is what bytes tell if they are one character of that many bytes.
func number(s string) int {
	c := int(s[0]) - []int{0, 0, 0xc0, 0xe0, 0xf0}[len(s)]
	for i := 1; i < len(s); i++ {
		c = c*64 + int(s[i]) - 0x80
	}
	return c
}

// firstOf is how many bytes the character has that s begins with; 0 where there is none.
func firstOf(s string) int {
	for n := 1; n <= 4 && n <= len(s); n++ {
		if c := number(s[:n]); isCharacter(c) && written(c) == s[:n] {
			return n
		}
	}
	return 0
}

// saidUTF is whether a text is characters, one behind the other.
func saidUTF(s string) bool {
	for s != "" {
		n := firstOf(s)
		if n == 0 {
			return false
		}
		s = s[n:]
	}
	return true
}

// saidNote is the chapter's words.
func saidNote(s string) bool {
	for _, b := range []byte(s) {
		if b < 32 || b == 127 {
			return false
		}
	}
	return len(s) <= 200 && saidUTF(s)
}

// saidRight is the chapter's words.
func saidRight(s string) bool {
	for _, part := range strings.Split(s, "/") {
		if part == "" || part == "." || part == ".." {
			return false
		}
	}
	return saidNote(s) && len(s) >= 1 && len(s) <= 64 && !strings.ContainsAny(s, ":\\")
}

// saidAscii is the chapter's words.
func saidAscii(s string) bool {
	for _, b := range []byte(s) {
		if b >= 128 {
			return false
		}
	}
	return true
}

// saidFile is the chapter's words.
func saidFile(s string) bool {
	return len(s) >= 5 && len(s) <= 40 && s[len(s)-4:] == ".zip" && !strings.Contains(s, "/") && saidRight(s)
}
