package record

import "stevedore/api"

// put lays a number of so many bytes behind others, the lowest first, by division.
func put(b []byte, size, n int) []byte {
	for range size {
		b = append(b, byte(n%256))
		n /= 256
	}
	return b
}

// number is what so many bytes from a place on are, by multiplication.
func number(s string, at, size int) uint64 {
	n := uint64(0)
	for i := size - 1; i >= 0; i-- {
		n = n*256 + uint64(s[at+i])
	}
	return n
}

// hasFlag8 tells whether the flag 8 is among the flags that make up a number.
func hasFlag8(flags int) bool {
	return flags%16 >= 8
}

// saidRight is the chapter's words.
func saidRight(r api.Record) bool {
	for _, n := range []int{r.Flags, r.Method, r.Date, r.Clock} {
		if n < 0 || n > 65535 {
			return false
		}
	}
	if r.Sum < 0 || r.Sum > 4294967295 {
		return false
	}
	for _, n := range []int{r.Size, r.Packed, r.At} {
		if n < 0 || r.Wide && n > 4611686018427387903 || !r.Wide && n > 4294967294 {
			return false
		}
	}
	return len(r.Name) <= 65535 && len(r.Note) <= 65535
}

// saidLocal is the chapter's words, of a record that may be written.
func saidLocal(r api.Record) string {
	version, packed, size, length := 20, r.Packed, r.Size, 0
	if hasFlag8(r.Flags) {
		r.Sum, packed, size = 0, 0, 0
	}
	var extra []byte
	if r.Wide {
		extra = put(put(extra, 2, 1), 2, 16)
		extra = put(put(extra, 8, size), 8, packed)
		version, packed, size, length = 45, 4294967295, 4294967295, 20
	}
	b := put(nil, 4, 0x04034b50)
	for _, n := range []int{version, r.Flags, r.Method, r.Clock, r.Date} {
		b = put(b, 2, n)
	}
	for _, n := range []int{r.Sum, packed, size} {
		b = put(b, 4, n)
	}
	b = put(put(b, 2, len(r.Name)), 2, length)
	return string(b) + r.Name + string(extra)
}

// saidTail is the chapter's words, of a record that may be written.
func saidTail(r api.Record) string {
	if !hasFlag8(r.Flags) {
		return ""
	}
	b := put(put(nil, 4, 0x08074b50), 4, r.Sum)
	if r.Wide {
		return string(put(put(b, 8, r.Packed), 8, r.Size))
	}
	return string(put(put(b, 4, r.Packed), 4, r.Size))
}

// saidCentral is the chapter's words, of a record that may be written.
func saidCentral(r api.Record) string {
	version, packed, size, at, length := 20, r.Packed, r.Size, r.At, 0
	var extra []byte
	if r.Wide {
		extra = put(put(extra, 2, 1), 2, 24)
		extra = put(put(put(extra, 8, size), 8, packed), 8, at)
		version, packed, size, at, length = 45, 4294967295, 4294967295, 4294967295, 28
	}
	b := put(nil, 4, 0x02014b50)
	for _, n := range []int{version, version, r.Flags, r.Method, r.Clock, r.Date} {
		b = put(b, 2, n)
	}
	for _, n := range []int{r.Sum, packed, size} {
		b = put(b, 4, n)
	}
	for _, n := range []int{len(r.Name), length, len(r.Note), 0, 0} {
		b = put(b, 2, n)
	}
	b = put(put(b, 4, 0), 4, at)
	return string(b) + r.Name + string(extra) + r.Note
}

// Where a central record's fields begin.
const (
	madeAt    = 4
	versionAt = 6
	flagsAt   = 8
	methodAt  = 10
	clockAt   = 12
	dateAt    = 14
	sumAt     = 16
	packedAt  = 20
	sizeAt    = 24
	nameLenAt = 28
	extraAt   = 30
	noteLenAt = 32
	noughtsAt = 34
	placeAt   = 42
	nameAt    = 46
)

// saidRead is the record whose central record comes just so at a place, and how many bytes that has, by the places of its fields.
func saidRead(s string, at int) (api.Record, int, bool) {
	if at < 0 || at > len(s) || len(s)-at < nameAt {
		return api.Record{}, 0, false
	}
	s = s[at:]
	name, extra, note := int(number(s, nameLenAt, 2)), int(number(s, extraAt, 2)), int(number(s, noteLenAt, 2))
	end := nameAt + name + extra + note
	if end > len(s) || number(s, 0, 4) != 0x02014b50 || number(s, noughtsAt, 8) != 0 {
		return api.Record{}, 0, false
	}
	size, packed, place := number(s, sizeAt, 4), number(s, packedAt, 4), number(s, placeAt, 4)
	most := uint64(1)<<32 - 2
	version, made := number(s, versionAt, 2), number(s, madeAt, 2)
	switch {
	case version == 20 && made == 20 && extra == 0:
	case version == 45 && made == 45 && extra == 28:
		x := s[nameAt+name:]
		if size != 1<<32-1 || packed != 1<<32-1 || place != 1<<32-1 || number(x, 0, 2) != 1 || number(x, 2, 2) != 24 {
			return api.Record{}, 0, false
		}
		size, packed, place, most = number(x, 4, 8), number(x, 12, 8), number(x, 20, 8), 1<<62-1
	default:
		return api.Record{}, 0, false
	}
	if size > most || packed > most || place > most {
		return api.Record{}, 0, false
	}
	return api.Record{
		Name: s[nameAt:][:name], Note: s[end-note : end], Wide: version == 45,
		Flags: int(number(s, flagsAt, 2)), Method: int(number(s, methodAt, 2)),
		Date: int(number(s, dateAt, 2)), Clock: int(number(s, clockAt, 2)),
		Sum: int(number(s, sumAt, 4)), Size: int(size), Packed: int(packed), At: int(place),
	}, end, true
}
