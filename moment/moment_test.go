package moment_test

import (
	"fmt"
	"math"
	"math/rand"
	"strings"
	"testing"
	"time"

	"packsaddle/api"
	"packsaddle/moment"
)

// there asks the library's calendar whether a day is there. Its leap years are those of the chapter from 1980 to 2107: of the hundreds 2000 is one, 2100 is none.
func there(year, month, day int) bool {
	if year < 1980 || year > 2107 || month < 1 || month > 12 || day < 1 || day > 31 {
		return false
	}
	d := time.Date(year, time.Month(month), day, 0, 0, 0, 0, time.UTC)
	return d.Year() == year && int(d.Month()) == month && d.Day() == day
}

func in(n, least, most int) bool { return n >= least && n <= most }

// wanted is what Join should answer, by arithmetic alone.
func wanted(c moment.Civil) (api.Moment, api.Errno) {
	if !there(c.Year, c.Month, c.Day) || !in(c.Hour, 0, 23) || !in(c.Minute, 0, 59) || !in(c.Second, 0, 59) {
		return api.Moment{}, api.ErrRange
	}
	if c.Second%2 == 1 {
		return api.Moment{}, api.ErrForm
	}
	return api.Moment{
		Date:  uint16((c.Year-1980)*512 + c.Month*32 + c.Day),
		Clock: uint16(c.Hour*2048 + c.Minute*32 + c.Second/2),
	}, api.OK
}

// parts are a moment's numbers, by arithmetic alone.
func parts(m api.Moment) moment.Civil {
	d, c := int(m.Date), int(m.Clock)
	return moment.Civil{Year: 1980 + d/512, Month: d / 32 % 16, Day: d % 32, Hour: c / 2048, Minute: c / 32 % 64, Second: c % 32 * 2}
}

// text is how a moment of such numbers is printed.
func text(c moment.Civil) string {
	return fmt.Sprintf("%04d-%02d-%02d %02d:%02d:%02d", c.Year, c.Month, c.Day, c.Hour, c.Minute, c.Second)
}

func wantJoin(t *testing.T, c moment.Civil) {
	t.Helper()
	want, e := wanted(c)
	if got, f := moment.Join(c); got != want || f != e {
		t.Errorf("Join of %+v: %+v, %d; want %+v, %d", c, got, f, want, e)
	}
}

// wantMoment asks for all that is answered of a moment alone.
func wantMoment(t *testing.T, m api.Moment) {
	t.Helper()
	c := parts(m)
	if got := moment.Split(m); got != c {
		t.Errorf("Split of %+v: %+v, want %+v", m, got, c)
	}
	_, e := wanted(c)
	if got := moment.Right(m); got != (e == api.OK) {
		t.Errorf("Right of %+v: %v", m, got)
	}
	want := ""
	if e == api.OK {
		want = text(c)
	}
	if got, f := moment.Print(m); got != want || f != e {
		t.Errorf("Print of %+v: %q, %d; want %q, %d", m, got, f, want, e)
	}
}

func wantNoText(t *testing.T, s string) {
	t.Helper()
	if m, e := moment.Parse(s); m != (api.Moment{}) || e != api.ErrForm {
		t.Errorf("Parse of %q: %+v, %d", s, m, e)
	}
}

// edges are numbers at the bounds of each of a moment's numbers, and just beyond, and such that would be in bounds if they went round.
func edges() []int {
	return []int{math.MinInt, math.MinInt + 1, -1 << 32, -65536, -1980, -129, -64, -32, -16, -2, -1, 0, 1, 2, 3, 4, 11, 12, 13, 15, 16, 22, 23, 24, 27, 28, 29, 30, 31, 32, 33,
		57, 58, 59, 60, 61, 62, 63, 64, 127, 128, 1979, 1980, 1981, 1999, 2000, 2001, 2096, 2099, 2100, 2101, 2104, 2107, 2108, 2109, 65536, 65537, 1 << 32, 1<<32 + 1, math.MaxInt - 1, math.MaxInt}
}

// P11.1: all dates, and all clocks, whatever they tell: their numbers, whether they may be, and their print.
func TestSplitRightPrint(t *testing.T) {
	for n := range 1 << 16 {
		for _, other := range []uint16{0, 33, 5<<11 | 7<<5 | 9, 1<<9 | 2<<5 | 29, 29<<5 | 29, math.MaxUint16} {
			wantMoment(t, api.Moment{Date: uint16(n), Clock: other})
			wantMoment(t, api.Moment{Date: other, Clock: uint16(n)})
		}
	}
	if c := moment.Split(api.Moment{Date: math.MaxUint16, Clock: math.MaxUint16}); c != (moment.Civil{Year: 2107, Month: 15, Day: 31, Hour: 31, Minute: 63, Second: 62}) {
		t.Error("the greatest numbers:", c)
	}
	if c := moment.Split(api.Moment{}); c != (moment.Civil{Year: 1980}) {
		t.Error("no bits:", c)
	}
}

// P11.1: the chapter's examples, and what may not be by one number alone.
func TestPrintEdges(t *testing.T) {
	first := api.Moment{Date: 33}
	for m, want := range map[api.Moment]string{
		first:                                  "1980-01-01 00:00:00",
		{Date: 63, Clock: 23<<11 | 59<<5 | 29}: "1980-01-31 23:59:58",
		{Date: 127<<9 | 12<<5 | 31, Clock: 9<<11 | 8<<5 | 3}: "2107-12-31 09:08:06",
		{Date: 20<<9 | 2<<5 | 29, Clock: 10 << 11}:           "2000-02-29 10:00:00",
	} {
		if s, e := moment.Print(m); s != want || e != api.OK {
			t.Errorf("%+v: %q, %d", m, s, e)
		}
	}
	for name, m := range map[string]api.Moment{
		"no day":                   {Date: 32},
		"no month":                 {Date: 1},
		"no date":                  {},
		"the month 13":             {Date: 13<<5 | 1},
		"the day 31 in April":      {Date: 4<<5 | 31},
		"the day 30 in February":   {Date: 2<<5 | 30},
		"29 February 1981":         {Date: 1<<9 | 2<<5 | 29},
		"29 February 2100":         {Date: 120<<9 | 2<<5 | 29},
		"the hour 24":              {Date: 33, Clock: 24 << 11},
		"the minute 60":            {Date: 33, Clock: 60 << 5},
		"half the second 30":       {Date: 33, Clock: 30},
		"half the second 31":       {Date: 33, Clock: 31},
		"all that may not be":      {Date: math.MaxUint16, Clock: math.MaxUint16},
		"a clock where a date was": {Clock: 33},
	} {
		if s, e := moment.Print(m); s != "" || e != api.ErrRange || moment.Right(m) {
			t.Errorf("%s: %q, %d", name, s, e)
		}
	}
}

// P11.1: each of a moment's numbers at its bounds, and just beyond, the others being right or not.
func TestJoin(t *testing.T) {
	if m, e := moment.Join(moment.Civil{Year: 1980, Month: 1, Day: 1}); m != (api.Moment{Date: 33}) || e != api.OK {
		t.Error("the chapter's example:", m, e)
	}
	bases := []moment.Civil{{Year: 1980, Month: 1, Day: 1}, {2107, 12, 31, 23, 59, 58}, {2000, 2, 29, 12, 30, 30}, {2100, 2, 28, 1, 2, 4}, {2001, 6, 15, 7, 8, 9}, {2100, 2, 29, 0, 0, 1}, {}}
	for _, base := range bases {
		for _, n := range edges() {
			for place := range 6 {
				c := base
				*[]*int{&c.Year, &c.Month, &c.Day, &c.Hour, &c.Minute, &c.Second}[place] = n
				wantJoin(t, c)
			}
		}
	}
	for year := 1978; year <= 2110; year++ {
		for month := -1; month <= 14; month++ {
			for day := -1; day <= 33; day++ {
				wantJoin(t, moment.Civil{Year: year, Month: month, Day: day, Hour: 23, Minute: 59, Second: 58})
			}
		}
	}
	for hour := -1; hour <= 32; hour++ {
		for minute := -1; minute <= 64; minute++ {
			for second := -2; second <= 64; second++ {
				wantJoin(t, moment.Civil{Year: 2026, Month: 11, Day: 19, Hour: hour, Minute: minute, Second: second})
			}
		}
	}
}

// P11.1: an odd second is told only where nothing else is wrong, and only if it may be.
func TestJoinOdd(t *testing.T) {
	for c, want := range map[moment.Civil]api.Errno{
		{1980, 1, 1, 0, 0, 1}:           api.ErrForm,
		{1980, 1, 1, 0, 0, 59}:          api.ErrForm,
		{1980, 1, 1, 0, 0, 58}:          api.OK,
		{1980, 1, 1, 0, 0, 60}:          api.ErrRange,
		{1980, 1, 1, 0, 0, 61}:          api.ErrRange,
		{1980, 1, 1, 0, 0, -1}:          api.ErrRange,
		{1980, 1, 1, 0, 0, math.MaxInt}: api.ErrRange,
		{1980, 1, 1, 0, 60, 1}:          api.ErrRange,
		{1980, 1, 1, 24, 0, 1}:          api.ErrRange,
		{1980, 1, 32, 0, 0, 1}:          api.ErrRange,
		{1980, 13, 1, 0, 0, 1}:          api.ErrRange,
		{1979, 1, 1, 0, 0, 1}:           api.ErrRange,
		{2108, 1, 1, 0, 0, 1}:           api.ErrRange,
		{2100, 2, 29, 0, 0, 1}:          api.ErrRange,
		{Year: math.MinInt, Month: math.MinInt, Day: math.MinInt}:        api.ErrRange,
		{Year: 1980 + 65536, Month: 1, Day: 1}:                           api.ErrRange,
		{Year: 1980, Month: 1 + 1<<32, Day: 1, Hour: 1 << 40, Second: 1}: api.ErrRange,
	} {
		if m, e := moment.Join(c); e != want || e != api.OK && m != (api.Moment{}) {
			t.Errorf("%+v: %+v, %d", c, m, e)
		}
	}
}

// P11.1: the days of all months, and of such as there are none.
func TestDays(t *testing.T) {
	for year, want := range map[int]int{1980: 29, 1981: 28, 1982: 28, 1983: 28, 1984: 29, 2000: 29, 2096: 29, 2099: 28, 2100: 28, 2101: 28, 2104: 29, 2107: 28, 1979: 0, 1976: 0, 2108: 0, 0: 0, 4: 0, -4: 0} {
		if got := moment.Days(year, 2); got != want {
			t.Errorf("February %d: %d days, want %d", year, got, want)
		}
	}
	for _, year := range append(edges(), 1985, 2004, 2050, 2106) {
		for _, month := range edges() {
			want := 0
			for day := 1; day <= 31; day++ {
				if there(year, month, day) {
					want = day
				}
			}
			if got := moment.Days(year, month); got != want {
				t.Errorf("month %d of %d: %d days, want %d", month, year, got, want)
			}
		}
	}
}

// P11.1: texts that are nearly a print are none, whatever stands at each place.
func TestParseNearly(t *testing.T) {
	const right = "1996-02-29 23:59:58"
	if m, e := moment.Parse(right); m != (api.Moment{Date: 16<<9 | 2<<5 | 29, Clock: 23<<11 | 59<<5 | 29}) || e != api.OK {
		t.Error(m, e)
	}
	for _, s := range []string{"", " ", "0", right + " ", " " + right, right + "\x00", "+" + right, "-" + right, right + "0", right + right,
		"996-02-29 23:59:58", "1996-2-29 23:59:58", "1996-02-9 23:59:58", "1996-02-29 3:59:58", "1996-02-29 23:9:58", "1996-02-29 23:59:8", "1996-02-29 23:59", "1996-02-29",
		"1996-2-029 23:59:58", "1996-002-9 23:59:58", "01996-2-29 23:59:58", "19960-2-29 23:59:58", "1996-02-29  3:59:58", "1996-02-29 23:59: 8", "1996-02-29 23: 9:58",
		"1996- 2-29 23:59:58", "1996-+2-29 23:59:58", "1996-02-+9 23:59:58", "1996-02-29 +3:59:58", "1996-02-29 -3:59:58", "1996-02-29 23:-9:58", "+996-02-29 23:59:58", "1996-02-29 23:59:5 ",
		"1996/02/29 23:59:58", "1996-02-29T23:59:58", "1996-02-29 23.59.58", "1996-02-29\t23:59:58", "1996:02:29 23-59-58", "29-02-1996 23:59:58",
		"1997-02-29 23:59:58", "2100-02-29 23:59:58", "1996-02-30 23:59:58", "1996-04-31 23:59:58", "1996-02-00 23:59:58", "1996-00-29 23:59:58", "1996-13-29 23:59:58",
		"1996-02-29 24:59:58", "1996-02-29 23:60:58", "1996-02-29 23:59:60", "1996-02-29 23:59:62", "1996-02-29 23:59:59", "1996-02-29 23:59:57", "1996-02-29 23:59:01",
		"1979-02-28 23:59:58", "2108-02-29 23:59:58", "0000-00-00 00:00:00", "9999-99-99 99:99:99", "-980-01-01 00:00:00",
		"1996-02-2\u0669 23:59:58", "1996-02-29 23:59:5\uff18", "\u0661\u0669\u0669\u0666-02-29 23:59:58", "1996-02-29\u00a023:59:58", "1996-02-2\u0669 23:59:5", "1996\u201302-29 23:59:5", "\xff\xfe96-02-29 23:59:58",
		"199\x36\x00-02-29 23:59:58", "19:6-02-29 23:59:58", "198:-02-29 23:59:58", "1996-0/-29 23:59:58", "1996-/<-29 23:59:58", "1996-02-1: 23:59:58", "1996-02-29 1::59:58", "1996-02-29 23:4::58", "1996-02-29 23:59:4:",
		strings.Repeat("0", 19), strings.Repeat(" ", 19), strings.Repeat("\x00", 19), strings.Repeat("\xff", 19), strings.Repeat(right, 1000), strings.Repeat("9", 100000)} {
		wantNoText(t, s)
	}
	for i := range right {
		wantNoText(t, right[:i]+right[i+1:])
		wantNoText(t, right[:i])
		wantNoText(t, right[i+1:])
	}
}

// P11.1: each place of a text with each other byte: it is read just where it is some moment's print.
func TestParseBytes(t *testing.T) {
	for _, right := range []string{"1996-02-29 23:59:58", "1980-01-01 00:00:00", "2107-12-31 19:30:26", "2011-11-11 11:11:10"} {
		for i := range right {
			for b := range 256 {
				s := right[:i] + string([]byte{byte(b)}) + right[i+1:]
				c := moment.Civil{}
				_, err := fmt.Sscanf(s, "%d-%d-%d %d:%d:%d", &c.Year, &c.Month, &c.Day, &c.Hour, &c.Minute, &c.Second)
				want, e := wanted(c)
				if err != nil || e != api.OK || text(c) != s {
					wantNoText(t, s)
				} else if m, f := moment.Parse(s); m != want || f != api.OK {
					t.Errorf("Parse of %q: %+v, %d", s, m, f)
				}
			}
		}
	}
}

// P11.1: a moment is ahead by its date, by its clock only if the dates are one; whether they may be counts for nothing.
func TestBefore(t *testing.T) {
	base := api.Moment{Date: 1<<9 | 5<<5 | 6, Clock: 7<<11 | 8<<5 | 9}
	for _, x := range []struct {
		name  string
		m     api.Moment
		ahead bool // of the base
		same  bool
	}{
		{"the same", base, false, true},
		{"the date less", api.Moment{Date: base.Date - 1, Clock: base.Clock}, true, false},
		{"the date more", api.Moment{Date: base.Date + 1, Clock: base.Clock}, false, false},
		{"the clock less", api.Moment{Date: base.Date, Clock: base.Clock - 1}, true, false},
		{"the clock more", api.Moment{Date: base.Date, Clock: base.Clock + 1}, false, false},
		{"the date less, the clock more", api.Moment{Date: base.Date - 1, Clock: base.Clock + 1}, true, false},
		{"the date more, the clock less", api.Moment{Date: base.Date + 1, Clock: base.Clock - 1}, false, false},
		{"the date less, the greatest clock", api.Moment{Date: base.Date - 1, Clock: math.MaxUint16}, true, false},
		{"the greatest date, no clock", api.Moment{Date: math.MaxUint16}, false, false},
		{"no date, the greatest clock", api.Moment{Clock: math.MaxUint16}, true, false},
		{"the highest bit of the date", api.Moment{Date: 1 << 15}, false, false},
		{"no bits", api.Moment{}, true, false},
	} {
		if got := moment.Before(x.m, base); got != x.ahead {
			t.Error(x.name, got)
		}
		if got := moment.Before(base, x.m); got != (!x.ahead && !x.same) {
			t.Error("the other way round:", x.name, got)
		}
	}
	random := rand.New(rand.NewSource(1))
	for range 20000 {
		a, b := random.Uint32(), random.Uint32()
		if random.Intn(2) == 0 {
			b = a&^(1<<16-1) | b&(1<<16-1)
		}
		if moment.Before(api.Moment{Date: uint16(a >> 16), Clock: uint16(a)}, api.Moment{Date: uint16(b >> 16), Clock: uint16(b)}) != (a < b) {
			t.Errorf("%#x, %#x", a, b)
		}
	}
}

func wantBack(t *testing.T, m api.Moment) {
	t.Helper()
	if got, e := moment.Join(moment.Split(m)); got != m || e != api.OK {
		t.Errorf("%+v joined of its parts: %+v, %d", m, got, e)
	}
	s, e := moment.Print(m)
	if got, f := moment.Parse(s); e != api.OK || got != m || f != api.OK {
		t.Errorf("%+v read of its print %q: %+v, %d", m, s, got, f)
	}
}

// P11.2: each date that may be, and each clock, is joined of its parts, and read of its print; all dates with some clocks, all clocks with some dates.
func TestBack(t *testing.T) {
	random := rand.New(rand.NewSource(2))
	dates, clocks := 0, 0
	for n := range 1 << 16 {
		if m := (api.Moment{Date: uint16(n), Clock: uint16(random.Intn(24)<<11 | random.Intn(60)<<5 | random.Intn(30))}); moment.Right(m) {
			wantBack(t, m)
			dates++
		}
		if m := (api.Moment{Date: uint16(random.Intn(128)<<9 | (1+random.Intn(12))<<5 | (1 + random.Intn(28))), Clock: uint16(n)}); moment.Right(m) {
			wantBack(t, m)
			clocks++
		}
	}
	if want := 128*365 + 31; dates != want {
		t.Errorf("%d dates, want %d", dates, want)
	}
	if want := 24 * 60 * 30; clocks != want {
		t.Errorf("%d clocks, want %d", clocks, want)
	}
}
