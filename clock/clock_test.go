package clock

import (
	"math"
	"math/rand"
	"slices"
	"sync"
	"testing"
	"time"

	"outcry/api"
)

const oneDay = 86400000

// dateAt tells by the library's means the date of a day.
func dateAt(t time.Time) int {
	return t.Year()*10000 + int(t.Month())*100 + t.Day()
}

func dayZero() time.Time {
	return time.Date(1970, 1, 1, 0, 0, 0, 0, time.UTC)
}

// stampAt writes by the library's means a time.
func stampAt(ms int64) string {
	return time.UnixMilli(ms).UTC().Format("20060102-15:04:05.000")
}

// isDate tells by the library's means whether a number is a date.
func isDate(date int) bool {
	year, month, day := date/10000, date/100%100, date%100
	if date < 19700101 || date > 99991231 {
		return false
	}
	return dateAt(time.Date(year, time.Month(month), day, 0, 0, 0, 0, time.UTC)) == date
}

// someTimes: edges of days, months, years and of the whole, and times in between.
func someTimes() []int64 {
	list := []int64{0, 1, 999, 1000, 59999, 60000, 3599999, 3600000, oneDay - 1, oneDay, api.MaxTime - 1, api.MaxTime, 1709210096789}
	for _, year := range []int{1970, 1971, 1972, 1999, 2000, 2001, 2023, 2024, 2099, 2100, 2400, 9996, 9999} {
		for month := range 12 {
			begin := time.Date(year, time.Month(month+1), 1, 0, 0, 0, 0, time.UTC).UnixMilli()
			list = append(list, max(begin-1, 0), begin, begin+1)
		}
	}
	r := rand.New(rand.NewSource(1))
	for range 20000 {
		list = append(list, r.Int63n(api.MaxTime+1))
	}
	return list
}

// noTimes: numbers that are none.
func noTimes() []int64 {
	return []int64{-1, -2, -oneDay, math.MinInt64, math.MinInt64 + 1, api.MaxTime + 1, api.MaxTime + oneDay, math.MaxInt64}
}

// noDates: numbers that are none.
func noDates() []int {
	return []int{
		0, 1, -1, 101, 10101, 19691231, 19700100, 19700001, 19700132, 19701301,
		20230229, 21000229, 22000229, 23000229, 99000229, 20240230, 20240132, 20240332, 20240431, 20240532,
		20240631, 20240732, 20240832, 20240931, 20241032, 20241131, 20241232, 20240100, 20240400, 20240001,
		20240000, 20241301, 20241901, 20249901, 20240199, 99991232, 99991301, 100000101, 120240101, 420240101,
		-20240101, -19700101, math.MaxInt, math.MinInt, math.MaxInt - 1, math.MinInt + 1,
	}
}

func TestT1Stamp(t *testing.T) {
	for _, c := range []struct {
		ms   int64
		want string
	}{
		{0, "19700101-00:00:00.000"},
		{1, "19700101-00:00:00.001"},
		{999, "19700101-00:00:00.999"},
		{1000, "19700101-00:00:01.000"},
		{59999, "19700101-00:00:59.999"},
		{60000, "19700101-00:01:00.000"},
		{3599999, "19700101-00:59:59.999"},
		{3600000, "19700101-01:00:00.000"},
		{oneDay - 1, "19700101-23:59:59.999"},
		{oneDay, "19700102-00:00:00.000"},
		{1709210096789, "20240229-12:34:56.789"},
		{951868799999, "20000229-23:59:59.999"},
		{951868800000, "20000301-00:00:00.000"},
		{4107542400000, "21000301-00:00:00.000"},
		{api.MaxTime, "99991231-23:59:59.999"},
	} {
		if s, e := Stamp(c.ms); s != c.want || e != api.OK {
			t.Errorf("Stamp(%d) = %q, %d, want %q", c.ms, s, e, c.want)
		}
	}
	for _, ms := range someTimes() {
		if s, e := Stamp(ms); s != stampAt(ms) || e != api.OK {
			t.Errorf("Stamp(%d) = %q, %d, want %q", ms, s, e, stampAt(ms))
		}
	}
	for _, ms := range noTimes() {
		if s, e := Stamp(ms); s != "" || e != api.ErrStamp {
			t.Errorf("Stamp(%d) = %q, %d, want ErrStamp", ms, s, e)
		}
	}
}

func TestT1ParseStamp(t *testing.T) {
	for _, c := range []struct {
		text string
		want int64
	}{
		{"20240229-12:34:56", 1709210096000},
		{"20240229-12:34:56.789", 1709210096789},
		{"20240229-12:34:56.000", 1709210096000},
		{"19700101-00:00:00", 0},
		{"19700101-00:00:00.001", 1},
		{"19700101-23:59:59", oneDay - 1000},
		{"99991231-23:59:59.999", api.MaxTime},
		{"99991231-23:59:59", api.MaxTime - 999},
		{"20000229-00:00:00", 951782400000},
	} {
		if ms, e := ParseStamp(c.text); ms != c.want || e != api.OK {
			t.Errorf("ParseStamp(%q) = %d, %d, want %d", c.text, ms, e, c.want)
		}
	}
	for _, s := range []string{
		"", "2", "20240229", "20240229-", "20240229-12:34", "20240229-12:34:5", "20240229-12:34:561",
		"20240101-00:00:00.", "20240101-00:00:00.0", "20240101-00:00:00.00", "20240101-00:00:00.0000",
		"20230229-00:00:00", "21000229-00:00:00", "19691231-23:59:59", "00000000-00:00:00", "00010101-00:00:00",
		"20240100-00:00:00", "20240132-00:00:00", "20240001-00:00:00", "20241301-00:00:00", "20240431-00:00:00.000",
		"20240101-24:00:00", "20240101-99:00:00", "20240101-23:60:00", "20240101-23:99:00", "20240101-00:00:60", "20240101-00:00:99",
		"20240101-24:00:00.000", "20240101-23:60:00.000", "20240101-00:00:60.000",
		"20240101 00:00:00", "20240101T00:00:00", "20240101-00-00:00", "20240101-00:00-00", "20240101-00:00:00,000", "20240101-00:00:00:000",
		"+2024101-00:00:00", "-2024101-00:00:00", "2024010 -00:00:00", "20240101--1:00:00", "20240101-00:+1:00", "20240101-00:00: 1",
		"20240101-00:00:00.-01", "20240101-00:00:00.00 ", " 20240101-00:00:00", "20240101-00:00:00\n", "2024-1-1-00:00:00",
		"20240101-00:00:0\u0661", "\u0662020101-00:00:00", "20240101-00:00:00.0\u00b2", "20240101-00:00:00\x00000",
	} {
		if ms, e := ParseStamp(s); ms != 0 || e != api.ErrStamp {
			t.Errorf("ParseStamp(%q) = %d, %d, want ErrStamp", s, ms, e)
		}
	}
}

func TestT1StampsAreReadAsWritten(t *testing.T) {
	for _, ms := range someTimes() {
		s := stampAt(ms)
		if back, e := ParseStamp(s); back != ms || e != api.OK {
			t.Errorf("ParseStamp(%q) = %d, %d, want %d", s, back, e, ms)
		}
		if back, e := ParseStamp(s[:17]); back != ms-ms%1000 || e != api.OK {
			t.Errorf("ParseStamp(%q) = %d, %d, want %d", s[:17], back, e, ms-ms%1000)
		}
	}
}

// checkReading: what is read is written again, with .000 where there were no milliseconds; and the library reads it too.
func checkReading(t *testing.T, s string) {
	t.Helper()
	form, whole := "20060102-15:04:05", s
	if len(s) == 21 {
		form += ".000"
	} else {
		whole += ".000"
	}
	at, err := time.Parse(form, s)
	want := err == nil && len(s) == len(form) && at.UnixMilli() >= 0 && stampAt(at.UnixMilli()) == whole
	ms, e := ParseStamp(s)
	if !want {
		if ms != 0 || e != api.ErrStamp {
			t.Errorf("ParseStamp(%q) = %d, %d, want ErrStamp", s, ms, e)
		}
		return
	}
	if ms != at.UnixMilli() || e != api.OK {
		t.Errorf("ParseStamp(%q) = %d, %d, want %d", s, ms, e, at.UnixMilli())
	}
	if again, e := Stamp(ms); again != whole || e != api.OK {
		t.Errorf("Stamp(ParseStamp(%q)) = %q, %d", s, again, e)
	}
}

func TestT1OtherBytes(t *testing.T) {
	for _, s := range []string{"20240229-12:34:56.789", "20240229-12:34:56", "19991231-23:59:59.999", "20001130-09:09:09"} {
		for i := range len(s) {
			for c := range 256 {
				checkReading(t, s[:i]+string([]byte{byte(c)})+s[i+1:])
			}
			checkReading(t, s[:i]+s[i+1:])
			checkReading(t, s[:i]+"0"+s[i:])
			checkReading(t, s[:i])
		}
	}
}

func FuzzParseStamp(f *testing.F) {
	f.Add("20240229-12:34:56.789")
	f.Add("20240229-12:34:56")
	f.Add("20230229-24:60:60.")
	f.Fuzz(checkReading)
}

func TestT2EveryDay(t *testing.T) {
	at := dayZero()
	for day := range (api.MaxTime + 1) / oneDay {
		date, start := dateAt(at), int64(day)*oneDay
		first, e := DateOf(start)
		last, f := DateOf(start + oneDay - 1)
		if first != date || last != date || e != api.OK || f != api.OK {
			t.Fatalf("DateOf day %d: %d, %d to %d, %d, want %d", day, first, e, last, f, date)
		}
		if ms, e := Start(date); ms != start || e != api.OK {
			t.Fatalf("Start(%d) = %d, %d, want %d", date, ms, e, start)
		}
		if w, e := Weekday(date); w != int(at.Weekday()) || e != api.OK {
			t.Fatalf("Weekday(%d) = %d, %d, want %d", date, w, e, at.Weekday())
		}
		at = at.AddDate(0, 0, 1)
	}
	if dateAt(at) != 100000101 {
		t.Fatalf("the days end ahead of %d", dateAt(at))
	}
}

func TestT2Examples(t *testing.T) {
	for date, want := range map[int]int{19700101: 4, 20240229: 4, 20000101: 6, 19700104: 0, 99991231: 5} {
		if w, e := Weekday(date); w != want || e != api.OK {
			t.Errorf("Weekday(%d) = %d, %d, want %d", date, w, e, want)
		}
	}
	if date, e := DateOf(253402300799999); date != 99991231 || e != api.OK {
		t.Errorf("DateOf the last time: %d, %d", date, e)
	}
	if date, e := DateOf(253402300800000); date != 0 || e != api.ErrStamp {
		t.Errorf("DateOf behind the last time: %d, %d", date, e)
	}
}

func checkNoDate(t *testing.T, date int) {
	t.Helper()
	if ms, e := Start(date); ms != 0 || e != api.ErrDate {
		t.Errorf("Start(%d) = %d, %d, want ErrDate", date, ms, e)
	}
	if w, e := Weekday(date); w != 0 || e != api.ErrDate {
		t.Errorf("Weekday(%d) = %d, %d, want ErrDate", date, w, e)
	}
}

func TestT2NoDates(t *testing.T) {
	for _, date := range noDates() {
		checkNoDate(t, date)
	}
	for _, year := range []int{0, 1969, 1970, 1972, 2000, 2023, 2024, 2100, 9999, 10000} {
		for rest := range 10000 {
			date := year*10000 + rest
			if !isDate(date) {
				checkNoDate(t, date)
			} else if _, e := Start(date); e != api.OK {
				t.Errorf("Start(%d): %d", date, e)
			}
		}
	}
}

func TestT2NoTimes(t *testing.T) {
	for _, ms := range noTimes() {
		if date, e := DateOf(ms); date != 0 || e != api.ErrStamp {
			t.Errorf("DateOf(%d) = %d, %d, want ErrStamp", ms, date, e)
		}
		if m, e := Minute(ms); m != 0 || e != api.ErrStamp {
			t.Errorf("Minute(%d) = %d, %d, want ErrStamp", ms, m, e)
		}
	}
}

func TestT2Minute(t *testing.T) {
	for ms, want := range map[int64]int{0: 0, 59999: 0, 60000: 1, 3600000: 60, oneDay - 60001: 1438, oneDay - 60000: 1439, oneDay - 1: 1439, oneDay: 0, 1709210096789: 754, api.MaxTime: 1439} {
		if m, e := Minute(ms); m != want || e != api.OK {
			t.Errorf("Minute(%d) = %d, %d, want %d", ms, m, e, want)
		}
	}
	for _, ms := range someTimes() {
		at := time.UnixMilli(ms).UTC()
		if m, e := Minute(ms); m != at.Hour()*60+at.Minute() || e != api.OK {
			t.Errorf("Minute(%d) = %d, %d", ms, m, e)
		}
	}
}

func mustCalendar(t *testing.T, holidays ...int) *Calendar {
	t.Helper()
	c, e := NewCalendar(holidays...)
	if c == nil || e != api.OK {
		t.Fatalf("NewCalendar of %d days: %v, %d", len(holidays), c, e)
	}
	return c
}

type addCase struct {
	date, n, want int
	e             api.Errno
}

func checkAdd(t *testing.T, c *Calendar, cases []addCase) {
	t.Helper()
	for _, x := range cases {
		if date, e := c.Add(x.date, x.n); date != x.want || e != x.e {
			t.Errorf("Add(%d, %d) = %d, %d, want %d, %d", x.date, x.n, date, e, x.want, x.e)
		}
	}
}

func TestT3NewCalendar(t *testing.T) {
	same := slices.Repeat([]int{20240101}, 1001)
	mustCalendar(t)
	mustCalendar(t, same[:1000]...)
	mustCalendar(t, 19700101, 99991231)
	mustCalendar(t, []int(nil)...)
	spoilt := slices.Clone(same)
	spoilt[1000] = 20230229
	for _, c := range []struct {
		days []int
		want api.Errno
	}{
		{same, api.ErrMany},
		{spoilt, api.ErrDate},
		{spoilt[1000:], api.ErrDate},
		{spoilt[999:], api.ErrDate},
		{[]int{20240229, 0, 20240228}, api.ErrDate},
	} {
		if cal, e := NewCalendar(c.days...); cal != nil || e != c.want {
			t.Errorf("NewCalendar of %d days = %v, %d, want %d", len(c.days), cal, e, c.want)
		}
	}
	for _, date := range noDates() {
		if c, e := NewCalendar(20240101, date); c != nil || e != api.ErrDate {
			t.Errorf("NewCalendar(%d) = %v, %d, want ErrDate", date, c, e)
		}
	}
}

func TestT3Open(t *testing.T) {
	c := mustCalendar(t, 20241225, 20241225, 20241228, 19700101, 99991231)
	for date, want := range map[int]bool{
		20241223: true, 20241224: true, 20241225: false, 20241226: true, 20241227: true,
		20241228: false, 20241229: false, 20241230: true, 20231225: true, 20251225: true,
		19700101: false, 19700102: true, 99991230: true, 99991231: false, 20240229: true,
	} {
		if open := c.Open(date); open != want {
			t.Errorf("Open(%d) = %v", date, open)
		}
	}
	for _, date := range noDates() {
		if c.Open(date) {
			t.Errorf("Open(%d), which is no date", date)
		}
	}
}

func TestT3Add(t *testing.T) {
	checkAdd(t, mustCalendar(t, 20241225), []addCase{
		{20241224, 1, 20241226, api.OK},
		{20241220, 3, 20241226, api.OK},
		{20241222, 0, 20241223, api.OK},
		{20241228, -1, 20241227, api.OK},
		{19700101, -1, 0, api.ErrDate},
		{20241224, 0, 20241224, api.OK},
		{20241225, 0, 20241226, api.OK},
		{20241225, 1, 20241226, api.OK},
		{20241225, -1, 20241224, api.OK},
		{20241226, -1, 20241224, api.OK},
		{20241221, 0, 20241223, api.OK},
		{20241221, 1, 20241223, api.OK},
		{20241222, -1, 20241220, api.OK},
		{20240228, 1, 20240229, api.OK},
		{20240301, -1, 20240229, api.OK},
		{20241231, 1, 20250101, api.OK},
		{19700101, 0, 19700101, api.OK},
		{19700102, -1, 19700101, api.OK},
		{19700102, -2, 0, api.ErrDate},
		{99991230, 1, 99991231, api.OK},
		{99991230, 2, 0, api.ErrDate},
		{99991231, 0, 99991231, api.OK},
		{99991231, 1, 0, api.ErrDate},
	})
	checkAdd(t, mustCalendar(t, 99991231, 19700101, 19700102), []addCase{
		{99991231, 0, 0, api.ErrDate},
		{99991230, 1, 0, api.ErrDate},
		{99991231, -1, 99991230, api.OK},
		{19700101, 0, 19700105, api.OK},
		{19700105, -1, 0, api.ErrDate},
	})
}

func TestT3AddFarAndWrong(t *testing.T) {
	c := mustCalendar(t)
	checkAdd(t, c, []addCase{
		{20240101, 10000, 20620501, api.OK},
		{20620501, -10000, 20240101, api.OK},
		{20240101, 10001, 0, api.ErrArg},
		{20240101, -10001, 0, api.ErrArg},
		{20240101, math.MaxInt, 0, api.ErrArg},
		{20240101, math.MinInt, 0, api.ErrArg},
		{99991231, 10001, 0, api.ErrArg},
		{19700101, -10001, 0, api.ErrArg},
		{99991231, 10000, 0, api.ErrDate},
		{19700101, -10000, 0, api.ErrDate},
		{20230229, 10001, 0, api.ErrDate},
	})
	for _, date := range noDates() {
		checkAdd(t, c, []addCase{{date, 0, 0, api.ErrDate}, {date, 1, 0, api.ErrDate}, {date, -1, 0, api.ErrDate}, {date, math.MinInt, 0, api.ErrDate}})
	}
}

// tradeDays lists by the library's means the days of trade of some years.
func tradeDays(from, to int, holidays []int) []int {
	var list []int
	for at := time.Date(from, 1, 1, 0, 0, 0, 0, time.UTC); at.Year() <= to; at = at.AddDate(0, 0, 1) {
		w := at.Weekday()
		if w != time.Saturday && w != time.Sunday && !slices.Contains(holidays, dateAt(at)) {
			list = append(list, dateAt(at))
		}
	}
	return list
}

// addByTheList tells the same as Add, if the list reaches so far.
func addByTheList(days []int, date, n int) int {
	i, open := slices.BinarySearch(days, date)
	if n < 0 {
		return days[i+n]
	}
	if n > 0 && !open {
		n--
	}
	return days[i+n]
}

func someHolidays(r *rand.Rand, from, years int) []int {
	var list []int
	at := time.Date(from, 1, 1, 0, 0, 0, 0, time.UTC)
	for range 1000 {
		list = append(list, dateAt(at.AddDate(0, 0, r.Intn(years*365))))
	}
	return list
}

func TestT3AddByAList(t *testing.T) {
	r := rand.New(rand.NewSource(2))
	holidays := someHolidays(r, 2019, 14)
	c := mustCalendar(t, holidays...)
	days := tradeDays(2000, 2050, holidays)
	for range 20000 {
		date := dateAt(time.Date(2020, 1, 1+r.Intn(3650), 0, 0, 0, 0, time.UTC))
		n := r.Intn(4001) - 2000
		if r.Intn(2) == 0 {
			n = r.Intn(11) - 5
		}
		want := addByTheList(days, date, n)
		if got, e := c.Add(date, n); got != want || e != api.OK {
			t.Fatalf("Add(%d, %d) = %d, %d, want %d", date, n, got, e, want)
		}
		if _, open := slices.BinarySearch(days, date); c.Open(date) != open {
			t.Fatalf("Open(%d) = %v", date, !open)
		}
	}
}

func TestT3AddsSumUp(t *testing.T) {
	r := rand.New(rand.NewSource(3))
	c := mustCalendar(t, someHolidays(r, 2000, 30)...)
	for range 2000 {
		date := dateAt(time.Date(2010, 1, 1+r.Intn(3650), 0, 0, 0, 0, time.UTC))
		m, n := 1+r.Intn(500), 1+r.Intn(500)
		for _, sign := range []int{1, -1} {
			half, _ := c.Add(date, sign*m)
			twice, _ := c.Add(half, sign*n)
			once, e := c.Add(date, sign*(m+n))
			if twice != once || e != api.OK {
				t.Fatalf("Add(%d, %d and %d, times %d) = %d, at once %d, %d", date, m, n, sign, twice, once, e)
			}
		}
		far, _ := c.Add(date, m)
		if back, e := c.Add(far, -m); c.Open(date) && (back != date || e != api.OK) {
			t.Fatalf("Add(%d, %d) and back: %d, %d", date, m, back, e)
		}
	}
}

func TestP3TheListIsTheCallers(t *testing.T) {
	room := []int{20241225, 20241226, 20241227}
	list := room[:2]
	c := mustCalendar(t, list...)
	if !slices.Equal(room, []int{20241225, 20241226, 20241227}) {
		t.Errorf("NewCalendar wrote into the list: %v", room)
	}
	list[0], list[1] = 20241223, 0
	if !c.Open(20241223) || c.Open(20241225) || c.Open(20241226) || !c.Open(20241227) {
		t.Error("the calendar has kept the list")
	}
}

func TestP4CalendarsAreApart(t *testing.T) {
	a, b := mustCalendar(t, 20241225), mustCalendar(t, 20241224)
	if a.Open(20241225) || !a.Open(20241224) || !b.Open(20241225) || b.Open(20241224) {
		t.Error("one calendar has the other's holidays")
	}
	var wait sync.WaitGroup
	for range 4 {
		wait.Go(func() {
			if date, e := a.Add(20241224, 1); date != 20241226 || e != api.OK {
				t.Errorf("asked by many at once: %d, %d", date, e)
			}
		})
	}
	wait.Wait()
}
