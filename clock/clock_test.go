package clock

import (
	"archive/zip"
	"math"
	"math/rand"
	"sync"
	"testing"
	"time"

	"stevedore/api"
)

// at is a moment, by its fields in their order.
func at(year, month, day, hour, min, sec int) api.Time {
	return api.Time{Year: year, Month: month, Day: day, Hour: hour, Min: min, Sec: sec}
}

// pair is what Pack tells.
type pair struct {
	date, clock int
	is          bool
}

func packed(m api.Time) pair {
	date, clock, is := Pack(m)
	return pair{date, clock, is}
}

// holdDays holds Days at several years of one month.
func holdDays(t *testing.T, asked, month int, years ...int) {
	t.Helper()
	for _, year := range years {
		if n := Days(year, month); n != asked || saidDays(year, month) != asked {
			t.Errorf("Days(%d, %d): %d, asked for %d", year, month, n, asked)
		}
	}
}

// holdMoment holds Right and Pack of a moment against the chapter's words, and tells whether it may be packed.
func holdMoment(t *testing.T, m api.Time) bool {
	t.Helper()
	date, clock, is := saidPack(m)
	if Right(m) != is {
		t.Errorf("Right(%v): %v, asked for %v", m, !is, is)
	}
	if got := packed(m); got != (pair{date, clock, is}) {
		t.Errorf("Pack(%v): %v, asked for %v", m, got, pair{date, clock, is})
	}
	return is
}

// holdOpen holds Open against the chapter's words, and tells whether there is such a moment.
func holdOpen(t *testing.T, date, clock int) bool {
	t.Helper()
	asked, is := saidOpen(date, clock)
	if m, found := Open(date, clock); m != asked || found != is {
		t.Errorf("Open(%d, %d): %v %v, asked for %v %v", date, clock, m, found, asked, is)
	}
	return is
}

// holdBoth holds a moment, its date and its clock, as they are written here.
func holdBoth(t *testing.T, m api.Time, date, clock int) {
	t.Helper()
	if got := packed(m); got != (pair{date, clock, true}) {
		t.Errorf("Pack(%v): %v, asked for %d and %d", m, got, date, clock)
	}
	if back, is := Open(date, clock); back != m || !is {
		t.Errorf("Open(%d, %d): %v %v, asked for %v", date, clock, back, is, m)
	}
	if !holdMoment(t, m) || !holdOpen(t, date, clock) {
		t.Errorf("%v isn't let in", m)
	}
}

// holdNoMoment holds that moments may not be packed.
func holdNoMoment(t *testing.T, moments ...api.Time) {
	t.Helper()
	for _, m := range moments {
		if holdMoment(t, m) || Right(m) || packed(m) != (pair{}) {
			t.Errorf("%v is let in: %v", m, packed(m))
		}
	}
}

// holdNone holds that there is no moment of a date and a clock.
func holdNone(t *testing.T, date, clock int) {
	t.Helper()
	if m, is := Open(date, clock); holdOpen(t, date, clock) || is || m != (api.Time{}) {
		t.Errorf("Open(%d, %d): %v %v, asked for none", date, clock, m, is)
	}
}

// date puts a date together of parts that may be no day's.
func date(year, month, day int) int {
	return 512*(year-1980) + 32*month + day
}

// clockOf puts a clock together of parts that may be no step's; half is of two seconds each.
func clockOf(hour, min, half int) int {
	return 2048*hour + 32*min + half
}

// far is numbers that are far out, or that few bits would take for others.
func far() []int {
	return []int{math.MinInt, math.MinInt + 1, math.MaxInt, math.MaxInt - 1, math.MinInt32, math.MaxInt32, 1 << 32, -1 << 32, 1<<32 + 1, 1<<32 + 1980, 65536, -65536, 256, -256, 128, 100, 64, 61, 32, -2, -12, -24, -60, 1 << 62, -1 << 62, math.MaxInt/512 + 1, math.MinInt/512 - 1, math.MaxInt/2048 + 1, math.MinInt/2048 - 1}
}

// P13.1: ordinary inputs.

func TestExample(t *testing.T) {
	holdBoth(t, at(1980, 1, 1, 1, 2, 4), 33, 2114)
}

func TestOrdinaryMoments(t *testing.T) {
	holdBoth(t, at(1980, 1, 1, 0, 0, 0), 33, 0)
	holdBoth(t, at(1980, 12, 31, 23, 59, 58), 415, 49021)
	holdBoth(t, at(1981, 1, 1, 0, 0, 2), 545, 1)
	holdBoth(t, at(1999, 12, 31, 12, 30, 30), 10143, 25551)
	holdBoth(t, at(2000, 2, 29, 8, 5, 58), 10333, 16573)
	holdBoth(t, at(2026, 11, 19, 8, 6, 46), 23923, 16599)
	holdBoth(t, at(2100, 2, 28, 0, 59, 0), 61532, 1888)
	holdBoth(t, at(2107, 12, 31, 23, 59, 58), 65439, 49021)
	holdNoMoment(t, api.Time{}, at(2026, 11, 19, 8, 6, 47), at(2026, 11, 31, 8, 6, 46), at(1970, 1, 1, 0, 0, 0), at(26, 11, 19, 8, 6, 46))
}

func TestOrdinaryDays(t *testing.T) {
	for month, asked := range []int{31, 28, 31, 30, 31, 30, 31, 31, 30, 31, 30, 31} {
		if n := Days(2026, month+1); n != asked {
			t.Errorf("month %d: %d days", month+1, n)
		}
	}
	holdNone(t, 0, 0)
	holdNone(t, 33, 30)
}

// P13.1: Days.

func TestDaysOfFebruary(t *testing.T) {
	holdDays(t, 29, 2, 1980, 1984, 1996, 2000, 2004, 2024, 2096, 2104, 1600, 2400, 400, 4, 8, 96, 104)
	holdDays(t, 28, 2, 1981, 1982, 1983, 1999, 2001, 2002, 2003, 2026, 2100, 2107, 2106, 2105, 1900, 1800, 1700, 2200, 2300, 100, 200, 300, 500, 1, 2, 3, 50, 1998, 2010, 2050)
	// Years that are none.
	holdDays(t, 29, 2, 0, -4, -8, -96, -104, -400, -2000, math.MinInt, math.MinInt+4, math.MaxInt-3, math.MinInt32)
	holdDays(t, 28, 2, -1, -2, -3, -5, -100, -200, -300, -500, -1900, math.MaxInt, math.MaxInt-1, math.MaxInt-2, math.MinInt+1, math.MinInt+2, math.MinInt+3, math.MaxInt32)
	// The greatest and the least multiples of 100 and of 400.
	holdDays(t, 28, 2, math.MaxInt/400*400+100, math.MinInt/400*400-100, math.MaxInt/400*400-100)
	holdDays(t, 29, 2, math.MaxInt/400*400, math.MinInt/400*400, math.MaxInt/400*400-400)
}

func TestDaysOfAllMonths(t *testing.T) {
	years := []int{1980, 1999, 2000, 2100, 2104, 2107, 0, -1, -4, 1, 100, 400}
	for _, year := range append(years, far()...) {
		holdDays(t, 30, 4, year)
		holdDays(t, 30, 6, year)
		holdDays(t, 30, 9, year)
		holdDays(t, 30, 11, year)
		for _, month := range []int{1, 3, 5, 7, 8, 10, 12} {
			holdDays(t, 31, month, year)
		}
		holdDays(t, saidDays(year, 2), 2, year)
	}
}

func TestMonthsThatAreNone(t *testing.T) {
	months := []int{0, 13, 14, 15, 16, 18, 21, 23, -1, -2, -3, -4, -6, -9, -10, -11, -12}
	for _, year := range append([]int{1980, 1999, 2000, 2100, 0, -1}, far()...) {
		for _, month := range append(months, far()...) {
			if month >= 1 && month <= 12 {
				t.Fatalf("%d is a month", month)
			}
			holdDays(t, 31, month, year)
		}
	}
}

func TestDaysAsGoHasThem(t *testing.T) {
	for year := -5000; year <= 5000; year++ {
		for month := 1; month <= 12; month++ {
			holdDays(t, time.Date(year, time.Month(month)+1, 0, 0, 0, 0, 0, time.UTC).Day(), month, year)
		}
		for month := -40; month <= 40; month++ {
			holdDays(t, saidDays(year, month), month, year)
		}
	}
}

// P13.1: Right and Pack, at the fields' edges.

// fields is pointers to a moment's fields.
func fields(m *api.Time) []*int {
	return []*int{&m.Year, &m.Month, &m.Day, &m.Hour, &m.Min, &m.Sec}
}

// with is a moment with another number in one of its fields.
func with(m api.Time, field, n int) api.Time {
	*fields(&m)[field] = n
	return m
}

func TestEdgesOfEachField(t *testing.T) {
	for _, m := range []api.Time{at(2000, 1, 1, 0, 0, 0), at(2026, 11, 19, 8, 6, 46), at(2104, 12, 31, 23, 59, 58)} {
		for field, edges := range [][2]int{{1980, 2107}, {1, 12}, {1, 0}, {0, 23}, {0, 59}, {0, 58}} {
			least, most := edges[0], edges[1]
			if field == 2 {
				most = Days(m.Year, m.Month)
			}
			for _, n := range []int{least, most} {
				if !holdMoment(t, with(m, field, n)) {
					t.Errorf("%v isn't let in", with(m, field, n))
				}
			}
			holdNoMoment(t, with(m, field, least-1), with(m, field, most+1), with(m, field, most+2), with(m, field, least-2))
		}
	}
}

func TestSeconds(t *testing.T) {
	for sec := -70; sec <= 130; sec++ {
		m := at(2026, 11, 19, 8, 6, sec)
		if is := sec >= 0 && sec <= 58 && sec%2 == 0; holdMoment(t, m) != is || Right(m) != is {
			t.Errorf("second %d: asked for %v", sec, is)
		}
	}
	holdNoMoment(t, at(1980, 1, 1, 0, 0, 1), at(1980, 1, 1, 0, 0, 57), at(1980, 1, 1, 0, 0, 59), at(1980, 1, 1, 0, 0, 60), at(1980, 1, 1, 0, 0, -1), at(1980, 1, 1, 0, 0, -2))
}

// All rows of fields' edges.
func TestEdgesTogether(t *testing.T) {
	var let int
	for _, year := range []int{1979, 1980, 1981, 2000, 2100, 2107, 2108} {
		for _, month := range []int{-1, 0, 1, 2, 3, 4, 12, 13} {
			for _, day := range []int{-1, 0, 1, 28, 29, 30, 31, 32} {
				for _, hour := range []int{-1, 0, 23, 24} {
					for _, min := range []int{-1, 0, 59, 60} {
						for _, sec := range []int{-2, -1, 0, 1, 57, 58, 59, 60} {
							if holdMoment(t, at(year, month, day, hour, min, sec)) {
								let++
							}
						}
					}
				}
			}
		}
	}
	// 5 years of 5 months, of each the days 1, 28, 29, 30 and 31 that it has, twice each of the rest.
	if asked := (5*(5*5) - 5 - (2 + 2*4 + 3*1)) * 8; let != asked {
		t.Errorf("%d are let in, asked for %d", let, asked)
	}
}

// The last day of each month, and one beyond.
func TestLastDays(t *testing.T) {
	for year := 1980; year <= 2107; year++ {
		for month := 1; month <= 12; month++ {
			last := saidDays(year, month)
			if !holdMoment(t, at(year, month, 1, 0, 0, 0)) || !holdMoment(t, at(year, month, last, 23, 59, 58)) {
				t.Errorf("the first or the last of %d in %d isn't let in", month, year)
			}
			holdNoMoment(t, at(year, month, 0, 0, 0, 0), at(year, month, -1, 0, 0, 0), at(year, month, last+1, 23, 59, 58))
			for day := -40; day <= 70; day++ {
				holdMoment(t, at(year, month, day, 12, 0, 0))
			}
		}
	}
	holdBoth(t, at(1980, 2, 29, 0, 0, 0), 93, 0)
	holdBoth(t, at(2000, 2, 29, 0, 0, 0), 10333, 0)
	holdBoth(t, at(2104, 2, 29, 0, 0, 0), 63581, 0)
	holdNoMoment(t, at(1980, 2, 30, 0, 0, 0), at(1999, 2, 29, 0, 0, 0), at(2100, 2, 29, 0, 0, 0), at(2107, 2, 29, 0, 0, 0), at(2000, 2, 30, 0, 0, 0), at(2000, 4, 31, 0, 0, 0), at(2000, 1, 32, 0, 0, 0))
}

func TestFieldsFarOut(t *testing.T) {
	base := at(2026, 11, 19, 8, 6, 46)
	for field := range 6 {
		for _, n := range []int{math.MinInt, math.MaxInt, math.MinInt + 1, math.MaxInt - 1} {
			holdNoMoment(t, with(base, field, n))
			for other := range 6 {
				for _, k := range far() {
					holdNoMoment(t, with(with(base, other, k), field, n))
				}
			}
		}
		for _, n := range far() {
			holdMoment(t, with(base, field, n))
			holdMoment(t, with(base, field, *fields(&base)[field]+n))
		}
	}
	for _, n := range far() {
		holdNoMoment(t, at(n, n, n, n, n, n))
	}
}

// Moments that aren't let in, though the sums of their fields are those of a date and a clock.
func TestSumsThatAreAnothers(t *testing.T) {
	holdNoMoment(t,
		at(1979, 17, 1, 1, 2, 4), at(1981, -15, 1, 1, 2, 4), at(1980, 0, 33, 1, 2, 4), at(1980, 2, -31, 1, 2, 4),
		at(1980, 1, 1, 0, 66, 4), at(1980, 1, 1, 2, -62, 4), at(1980, 1, 1, 1, 1, 68), at(1980, 1, 1, 1, 3, -60),
		at(1980, 1, 1, 1, 2, 5), at(1980, 0, 1, 1, 2, 4), at(1980, 1, 0, 1, 2, 4), at(1980+1<<55, 1, 1, 1, 2, 4),
		at(1980, 1, 1, 1+1<<53, 2, 4), at(1980, 1, 1+1<<32, 1, 2, 4), at(1980+65536, 1, 1, 1, 2, 4), at(2108, 1, 1, 1, 2, 4),
	)
}

// P13.1: Open.

// holdParts holds Open at a date and a clock put together of parts; asked is whether there is such a moment.
func holdParts(t *testing.T, asked bool, year, month, day, hour, min, half int) {
	t.Helper()
	d, c := date(year, month, day), clockOf(hour, min, half)
	if !asked {
		holdNone(t, d, c)
		return
	}
	holdBoth(t, at(year, month, day, hour, min, 2*half), d, c)
}

func TestOpenOfParts(t *testing.T) {
	for month := range 16 {
		holdParts(t, month >= 1 && month <= 12, 2026, month, 19, 8, 6, 23)
	}
	for day := range 32 {
		holdParts(t, day >= 1 && day <= 31, 2026, 1, day, 8, 6, 23)
		holdParts(t, day >= 1 && day <= 30, 2026, 11, day, 8, 6, 23)
		holdParts(t, day >= 1 && day <= 29, 2024, 2, day, 8, 6, 23)
		holdParts(t, day >= 1 && day <= 28, 2026, 2, day, 8, 6, 23)
		holdParts(t, day >= 1 && day <= 28, 2100, 2, day, 8, 6, 23)
		holdParts(t, day >= 1 && day <= 29, 2000, 2, day, 8, 6, 23)
		for month := range 16 {
			is := month >= 1 && month <= 12 && day >= 1 && day <= saidDays(1999, month)
			holdParts(t, is, 1999, month, day, 8, 6, 23)
		}
	}
	for year := 1980; year <= 2107; year++ {
		holdParts(t, true, year, 1, 1, 0, 0, 0)
		holdParts(t, saidDays(year, 2) == 29, year, 2, 29, 0, 0, 0)
		holdParts(t, false, year, 2, 30, 0, 0, 0)
		holdParts(t, false, year, 0, 0, 0, 0, 0)
		holdParts(t, false, year, 15, 31, 0, 0, 0)
	}
	for hour := range 32 {
		for min := range 64 {
			for half := range 32 {
				holdParts(t, hour < 24 && min < 60 && half < 30, 2026, 11, 19, hour, min, half)
			}
		}
	}
}

func TestGreatestAndOneBeyond(t *testing.T) {
	holdBoth(t, at(2107, 12, 31, 23, 59, 58), 65439, 49021)
	holdNone(t, 65440, 49021)
	holdNone(t, 65439, 49022)
	holdNone(t, 65440, 49022)
	holdBoth(t, at(1980, 1, 1, 0, 0, 0), 33, 0)
	holdNone(t, 32, 0)
	holdNone(t, 33, -1)
	holdNone(t, 32, -1)
}

func TestOpenFarOut(t *testing.T) {
	out := append(far(), 65535, 65536, -1, -33, 65536+33, -65536+33, 1<<32+33, -1<<32+33, math.MinInt+33, math.MaxInt-31, 49152, 49152+2114, 65536+2114, -65536+2114, -2048, -2047, -32, -31, -2114, 1<<48+33, 1<<56+2114)
	for _, n := range out {
		if n < 0 || n > 65439 {
			holdNone(t, n, 2114)
			holdNone(t, n, 0)
		}
		if n < 0 || n > 49021 {
			holdNone(t, 33, n)
			holdNone(t, 65439, n)
		}
		for _, k := range out {
			holdOpen(t, n, k)
		}
	}
}

// All dates and all clocks, and many that are far beyond, each with several of the others.
func TestAllDatesAndClocks(t *testing.T) {
	dates, clocks := 0, 0
	for n := -70000; n <= 140000; n++ {
		for _, other := range []int{0, 2114, 49021, 30, -1, 65535} {
			if holdOpen(t, n, other) {
				dates++
			}
		}
		for _, other := range []int{33, 23923, 65439, 0, 32, -1, 65535} {
			if holdOpen(t, other, n) {
				clocks++
			}
		}
	}
	if days, steps := len(walked().days), len(walked().steps); dates != 3*days || clocks != 3*steps || steps != 43200 {
		t.Errorf("%d dates, %d clocks, of %d days and %d steps", dates, clocks, days, steps)
	}
}

// Go's own headers tell the same moments; of what is none they make another one, which they pack otherwise.
func TestOpenAsGoHasIt(t *testing.T) {
	hold := func(date, clock int) {
		h := &zip.FileHeader{ModifiedDate: uint16(date), ModifiedTime: uint16(clock)}
		theirs := h.ModTime()
		h.SetModTime(theirs)
		m, is := Open(date, clock)
		if is != (int(h.ModifiedDate) == date && int(h.ModifiedTime) == clock) {
			t.Errorf("Open(%d, %d): %v, Go has %v", date, clock, is, theirs)
		}
		if is && time.Date(m.Year, time.Month(m.Month), m.Day, m.Hour, m.Min, m.Sec, 0, time.UTC) != theirs {
			t.Errorf("Open(%d, %d): %v, Go has %v", date, clock, m, theirs)
		}
	}
	for n := range 65536 {
		hold(n, 2114)
		// Of January of 2024, lest another month makes up for what a clock has too much.
		hold(22577, n)
	}
}

// P13.2: there and back.

// thereAndBack holds a moment that may be packed.
func thereAndBack(t *testing.T, m api.Time) {
	t.Helper()
	date, clock, is := Pack(m)
	back, opened := Open(date, clock)
	if !is || !opened || back != m || !Right(m) {
		t.Fatalf("%v: packed as %d and %d, %v, opened as %v, %v", m, date, clock, is, back, opened)
	}
	if date < 33 || date > 65439 || clock < 0 || clock > 49021 {
		t.Fatalf("%v: packed as %d and %d", m, date, clock)
	}
}

func TestEachDayAndEachClock(t *testing.T) {
	days, steps := walked().days, walked().steps
	for i, d := range days {
		for _, s := range [][3]int{{0, 0, 0}, {1, 2, 4}, {12, 0, 0}, {23, 59, 58}, steps[i%len(steps)], steps[i*31%len(steps)]} {
			thereAndBack(t, moment(d, s))
		}
	}
	for i, s := range steps {
		for _, d := range [][3]int{{1980, 1, 1}, {2000, 2, 29}, {2026, 11, 19}, {2107, 12, 31}, days[i], days[i*31%len(days)]} {
			thereAndBack(t, moment(d, s))
		}
	}
}

// What is opened is packed as it was, and what isn't is no moment's.
func TestOpenedAndPacked(t *testing.T) {
	opened := 0
	for n := range 65536 {
		for _, p := range [][2]int{{n, 0}, {n, 49021}, {33, n}, {65439, n}, {n, n * 31 % 65536}, {n * 31 % 65536, n}} {
			m, is := Open(p[0], p[1])
			if is {
				opened++
			}
			if is != Right(m) || is && packed(m) != (pair{p[0], p[1], true}) {
				t.Fatalf("%v: opened as %v, %v, packed as %v", p, m, is, packed(m))
			}
		}
	}
	if opened < 4*43200 {
		t.Errorf("only %d are opened", opened)
	}
}

// P13.2: in order.

// isAhead tells whether a pair stands ahead of another: by its date first, then by its clock.
func isAhead(a, b pair) bool {
	return a.date < b.date || a.date == b.date && a.clock < b.clock
}

func TestEachDayIsAheadOfTheNext(t *testing.T) {
	days, steps := walked().days, walked().steps
	last := steps[len(steps)-1]
	for i := 1; i < len(days); i++ {
		a, b := packed(moment(days[i-1], last)), packed(moment(days[i], steps[0]))
		if !a.is || !b.is || a.date >= b.date || !isAhead(a, b) {
			t.Fatalf("%v at its end: %v, %v at its beginning: %v", days[i-1], a, days[i], b)
		}
	}
	for i := 1; i < len(steps); i++ {
		for _, d := range [][3]int{days[0], days[i], days[len(days)-1]} {
			a, b := packed(moment(d, steps[i-1])), packed(moment(d, steps[i]))
			if !a.is || !b.is || a.date != b.date || a.clock >= b.clock {
				t.Fatalf("%v: %v at %v, %v at %v", d, a, steps[i-1], b, steps[i])
			}
		}
	}
}

func TestLaterMomentsHaveGreaterPairs(t *testing.T) {
	random := rand.New(rand.NewSource(13))
	days, steps := walked().days, walked().steps
	for range 500000 {
		i, j := random.Intn(len(days)), random.Intn(len(days))
		if random.Intn(2) == 0 {
			j = i
		}
		k, l := random.Intn(len(steps)), random.Intn(len(steps))
		a, b := packed(moment(days[i], steps[k])), packed(moment(days[j], steps[l]))
		if isAhead(a, b) != (i < j || i == j && k < l) || (a == b) != (i == j && k == l) {
			t.Fatalf("%v %v: %v, %v %v: %v", days[i], steps[k], a, days[j], steps[l], b)
		}
	}
}

// The other way round: greater pairs are opened as later moments.
func TestGreaterPairsAreLaterMoments(t *testing.T) {
	var ahead time.Time
	for n := range 65536 {
		m, is := Open(n, 0)
		if !is {
			continue
		}
		now := time.Date(m.Year, time.Month(m.Month), m.Day, m.Hour, m.Min, m.Sec, 0, time.UTC)
		if !now.After(ahead) {
			t.Fatalf("date %d: %v, behind %v", n, now, ahead)
		}
		ahead = now
	}
	ahead = time.Time{}
	for n := range 65536 {
		m, is := Open(33, n)
		if !is {
			continue
		}
		now := time.Date(m.Year, time.Month(m.Month), m.Day, m.Hour, m.Min, m.Sec, 0, time.UTC)
		if !now.After(ahead) {
			t.Fatalf("clock %d: %v, behind %v", n, now, ahead)
		}
		ahead = now
	}
}

// P1.

// holdAll holds all four calls at numbers of chance.
func holdAll(t *testing.T, m api.Time, date, clock int) {
	t.Helper()
	if n := Days(m.Year, m.Month); n != saidDays(m.Year, m.Month) {
		t.Errorf("Days(%d, %d): %d", m.Year, m.Month, n)
	}
	holdMoment(t, m)
	holdOpen(t, date, clock)
}

func TestNumbersOfChance(t *testing.T) {
	random := rand.New(rand.NewSource(14))
	// Numbers of all magnitudes, above and below nought.
	some := func() int { return int(random.Uint64()) >> random.Intn(64) }
	for range 300000 {
		holdAll(t, at(some(), some(), some(), some(), some(), some()), some(), some())
		near := at(1979+random.Intn(130), random.Intn(14), random.Intn(33), random.Intn(25)-1, random.Intn(62)-1, random.Intn(62)-1)
		holdAll(t, near, random.Intn(66000)-100, random.Intn(66000)-100)
		holdAll(t, with(near, random.Intn(6), some()), some(), random.Intn(49022))
		holdAll(t, near, random.Intn(65440), some())
	}
}

// Rule 4: what a call answers hangs on its numbers alone.
func TestNothingIsKeptBetweenCalls(t *testing.T) {
	moments := []api.Time{{}, at(1980, 1, 1, 1, 2, 4), at(2000, 2, 29, 23, 59, 58), at(2001, 2, 29, 0, 0, 0), at(2107, 12, 31, 23, 59, 58), at(2108, 1, 1, 0, 0, 0), at(2026, 11, 19, 8, 6, 47)}
	pairs := [][2]int{{33, 2114}, {0, 0}, {33, 30}, {65439, 49021}, {65440, 0}, {-1, -1}, {10333, 1888}}
	var group sync.WaitGroup
	for k := range 8 {
		group.Go(func() {
			for i := range 2000 {
				p := pairs[(i*(2*k+1)+k)%len(pairs)]
				holdAll(t, moments[(i*(k+2)+k)%len(moments)], p[0], p[1])
			}
		})
	}
	group.Wait()
}

func FuzzClock(f *testing.F) {
	f.Add(1980, 1, 1, 1, 2, 4, 33, 2114)
	f.Add(2000, 2, 29, 23, 59, 58, 65439, 49021)
	f.Add(2108, 13, 32, 24, 60, 60, -1, 65536)
	f.Add(math.MinInt, math.MaxInt, 0, -1, math.MinInt, math.MaxInt, math.MinInt, math.MaxInt)
	f.Fuzz(func(t *testing.T, year, month, day, hour, min, sec, date, clock int) {
		holdAll(t, at(year, month, day, hour, min, sec), date, clock)
	})
}
