package ender

import "stevedore/api"

// put lays a number of so many bytes behind others, the lowest first, by division.
func put(b []byte, size, n int) []byte {
	for range size {
		b = append(b, byte(n%256))
		n /= 256
	}
	return b
}

// number is what so many bytes from a place on are, by multiplication.
func number(s string, at, size int) uint64 {
	n := uint64(0)
	for i := size - 1; i >= 0; i-- {
		n = n*256 + uint64(s[at+i])
	}
	return n
}

// saidRight is the chapter's words.
func saidRight(e api.End) bool {
	if e.Count < 0 || e.Size < 0 || e.At < 0 || len(e.Note) > 65535 {
		return false
	}
	if e.Wide {
		return e.Count <= 1099511627776 && e.Size <= 2305843009213693952 && e.At <= 2305843009213693952
	}
	return e.Count <= 65534 && e.Size <= 4294967294 && e.At <= 4294967294
}

// saidPrint is the chapter's words, of an end that may be written.
func saidPrint(e api.End) string {
	var b []byte
	count, size, at := e.Count, e.Size, e.At
	if e.Wide {
		b = put(put(b, 4, 0x06064b50), 8, 44)
		b = put(put(b, 2, 45), 2, 45)
		b = put(put(b, 4, 0), 4, 0)
		b = put(put(b, 8, count), 8, count)
		b = put(put(b, 8, size), 8, at)
		b = put(put(b, 4, 0x07064b50), 4, 0)
		b = put(put(b, 8, at+size), 4, 1)
		count, size, at = 65535, 4294967295, 4294967295
	}
	b = put(b, 4, 0x06054b50)
	for _, n := range []int{0, 0, count, count} {
		b = put(b, 2, n)
	}
	b = put(put(b, 4, size), 4, at)
	return string(put(b, 2, len(e.Note))) + e.Note
}

// Where the fields of an end begin that isn't Wide.
const (
	disksAt   = 4
	count1At  = 8
	count2At  = 10
	sizeAt    = 12
	placeAt   = 16
	noteLenAt = 20
	noteAt    = 22
)

// And those that one that is Wide has ahead.
const (
	lengthAt     = 4
	versionsAt   = 12
	wideDisksAt  = 16
	wideCount1At = 24
	wideCount2At = 32
	wideSizeAt   = 40
	widePlaceAt  = 48
	locatorAt    = 56
	locDiskAt    = 60
	locPlaceAt   = 64
	locDisksAt   = 72
	ownAt        = 76
)

// saidPlain is the end that isn't Wide whose bytes stand from a place on up to s's end, by the places of its fields.
func saidPlain(s string, at int) (api.End, bool) {
	if at < 0 || at+noteAt > len(s) {
		return api.End{}, false
	}
	ahead, s := uint64(at), s[at:]
	count, size, place := number(s, count1At, 2), number(s, sizeAt, 4), number(s, placeAt, 4)
	is := number(s, 0, 4) == 0x06054b50 && number(s, disksAt, 4) == 0 && count == number(s, count2At, 2) &&
		count <= 65534 && size <= 1<<32-2 && place <= 1<<32-2 && size+place == ahead && number(s, noteLenAt, 2) == uint64(len(s)-noteAt)
	if !is {
		return api.End{}, false
	}
	return api.End{Count: int(count), Size: int(size), At: int(place), Note: s[noteAt:]}, true
}

// saidWide is the end that is Wide whose bytes stand from a place on up to s's end, by the places of its fields.
func saidWide(s string, at int) (api.End, bool) {
	if at < 0 || at+ownAt+noteAt > len(s) {
		return api.End{}, false
	}
	ahead, s, own := uint64(at), s[at:], s[at+ownAt:]
	count, size, place := number(s, wideCount1At, 8), number(s, wideSizeAt, 8), number(s, widePlaceAt, 8)
	is := number(s, 0, 4) == 0x06064b50 && number(s, lengthAt, 8) == 44 && number(s, versionsAt, 2) == 45 && number(s, versionsAt+2, 2) == 45 &&
		number(s, wideDisksAt, 8) == 0 && count == number(s, wideCount2At, 8) && count <= 1<<40 && size <= 1<<61 && place <= 1<<61 && size+place == ahead &&
		number(s, locatorAt, 4) == 0x07064b50 && number(s, locDiskAt, 4) == 0 && number(s, locPlaceAt, 8) == ahead && number(s, locDisksAt, 4) == 1 &&
		number(own, 0, 4) == 0x06054b50 && number(own, disksAt, 4) == 0 && number(own, count1At, 2) == 65535 && number(own, count2At, 2) == 65535 &&
		number(own, sizeAt, 4) == 1<<32-1 && number(own, placeAt, 4) == 1<<32-1 && number(own, noteLenAt, 2) == uint64(len(own)-noteAt)
	if !is {
		return api.End{}, false
	}
	return api.End{Count: int(count), Size: int(size), At: int(place), Note: own[noteAt:], Wide: true}, true
}

// saidEnds is all ends that a text ends with just so, wherever they begin.
func saidEnds(s string) []api.End {
	var out []api.End
	for at := range s {
		if e, is := saidPlain(s, at); is {
			out = append(out, e)
		}
		if e, is := saidWide(s, at); is {
			out = append(out, e)
		}
	}
	return out
}

// saidFind is the one of them with the shortest comment.
func saidFind(s string) (api.End, bool) {
	ends := saidEnds(s)
	if len(ends) == 0 {
		return api.End{}, false
	}
	best := ends[0]
	for _, e := range ends[1:] {
		if len(e.Note) < len(best.Note) {
			best = e
		}
	}
	return best, true
}
