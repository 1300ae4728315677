package clock

import (
	"strconv"
	"strings"
	"sync"

	"stevedore/api"
)

// isMultiple is whether a number is a multiple of 4, of 100 or of 400, by its last digits as they are written.
func isMultiple(of, year int) bool {
	digits := "000" + strings.TrimPrefix(strconv.Itoa(year), "-")
	four := func(s string) bool {
		n := int(s[0]-'0')*10 + int(s[1]-'0')
		return n%4 == 0
	}
	last := digits[len(digits)-2:]
	switch of {
	case 4:
		return four(last)
	case 100:
		return last == "00"
	}
	return last == "00" && four(digits[len(digits)-4:len(digits)-2])
}

// saidDays is the chapter's words.
func saidDays(year, month int) int {
	for _, m := range []int{4, 6, 9, 11} {
		if month == m {
			return 30
		}
	}
	if month != 2 {
		return 31
	}
	if isMultiple(4, year) && (isMultiple(400, year) || !isMultiple(100, year)) {
		return 29
	}
	return 28
}

// calendar is all days and all of a day's steps of two seconds, one behind the other, and where each one's date and clock are found.
type calendar struct {
	days, steps    [][3]int
	dates, clocks  map[[3]int]int
	dayOf, stepsOf map[int][3]int
}

// walked is the calendar, made once for all tests.
var walked = sync.OnceValue(func() *calendar {
	c := &calendar{dates: map[[3]int]int{}, clocks: map[[3]int]int{}, dayOf: map[int][3]int{}, stepsOf: map[int][3]int{}}
	for year := 1980; year <= 2107; year++ {
		for month := 1; month <= 12; month++ {
			for day := 1; day <= saidDays(year, month); day++ {
				c.day([3]int{year, month, day}, 512*(year-1980)+32*month+day)
			}
		}
	}
	for hour := 0; hour <= 23; hour++ {
		for min := 0; min <= 59; min++ {
			for sec := 0; sec <= 58; sec += 2 {
				c.step([3]int{hour, min, sec}, 2048*hour+32*min+sec/2)
			}
		}
	}
	return c
})

func (c *calendar) day(d [3]int, date int) {
	c.days = append(c.days, d)
	c.dates[d] = date
	c.dayOf[date] = d
}

func (c *calendar) step(s [3]int, clock int) {
	c.steps = append(c.steps, s)
	c.clocks[s] = clock
	c.stepsOf[clock] = s
}

// moment is a day and a step of it.
func moment(d, s [3]int) api.Time {
	return api.Time{Year: d[0], Month: d[1], Day: d[2], Hour: s[0], Min: s[1], Sec: s[2]}
}

// halves is a moment's day and its step.
func halves(m api.Time) ([3]int, [3]int) {
	return [3]int{m.Year, m.Month, m.Day}, [3]int{m.Hour, m.Min, m.Sec}
}

// saidPack is the date and the clock that the calendar has of a moment.
func saidPack(m api.Time) (int, int, bool) {
	d, s := halves(m)
	date, isDay := walked().dates[d]
	clock, isStep := walked().clocks[s]
	if !isDay || !isStep {
		return 0, 0, false
	}
	return date, clock, true
}

// saidOpen is the moment that the calendar has of a date and a clock.
func saidOpen(date, clock int) (api.Time, bool) {
	d, isDay := walked().dayOf[date]
	s, isStep := walked().stepsOf[clock]
	if !isDay || !isStep {
		return api.Time{}, false
	}
	return moment(d, s), true
}
