package calendar

import (
	"fmt"
	"math"
	"math/big"
	"math/rand"
	"regexp"
	"strconv"
	"strings"
	"testing"
	"time"

	"transclude/api"
	"transclude/sample"
)

// The limits and units, written anew so that the tests fix their values.
const (
	end        = 52596000
	maxPattern = 400
	allCodes   = "YmnFMdjzNlDHGi"
)

// date returns a date.
func date(year, month, day int) api.Date { return api.Date{Year: year, Month: month, Day: day} }

// at returns the instant of a date and a clock that exist.
func at(year, month, day, hour, minute int) int {
	return instantOf(time.Date(year, time.Month(month), day, hour, minute, 0, 0, time.UTC))
}

// timeOf returns an instant as a time; it and instantOf are how the tests read the chapter by the calendar of Go's library.
func timeOf(minute int) time.Time {
	return time.Date(2000, 1, 1, 0, 0, 0, 0, time.UTC).Add(time.Duration(minute) * time.Minute)
}

// instantOf returns a time as an instant.
func instantOf(x time.Time) int { return int(x.Unix()/60 - timeOf(0).Unix()/60) }

// extremes are numbers that nothing allows.
func extremes() []int {
	return []int{math.MinInt, math.MinInt + 1, -1 << 32, -1 << 31, -end, 1 << 31, 1 << 32, math.MaxInt - 1, math.MaxInt}
}

// outside are numbers that are no instants.
func outside() []int { return append(extremes(), -1, -2, -1440, end, end+1, end+1440) }

// clocks are the clocks at both ends of the day and beside the beginnings of some hours.
func clocks() []int { return []int{0, 1, 59, 60, 61, 719, 720, 1379, 1380, 1438, 1439} }

// randomInstant returns an instant; the ends of days, months and years are more frequent than by chance.
func randomInstant(random *rand.Rand) int {
	switch random.Intn(4) {
	case 0:
		return at(2000+random.Intn(100), 1+random.Intn(12), 1+random.Intn(28), 0, 0)
	case 1:
		return max(0, at(2000+random.Intn(100), 1+random.Intn(12), 1, 0, 0)-1-random.Intn(3000))
	case 2:
		return at(2000+random.Intn(100), 2, 28, random.Intn(48), random.Intn(60))
	}
	return random.Intn(end)
}

// must checks the result and the error of a call, described by its format. It ends the test, as many tests would fail for each day.
func must[T comparable](t *testing.T, got T, err api.Errno, want T, wantErr api.Errno, format string, args ...any) {
	t.Helper()
	if got != want || err != wantErr {
		t.Fatalf("%s = %v, %v, want %v, %v", fmt.Sprintf(format, args...), got, err, want, wantErr)
	}
}

func mustMinute(t *testing.T, d api.Date, clock, want int) {
	t.Helper()
	got, err := Minute(d, clock)
	must(t, got, err, want, api.OK, "Minute(%v, %d)", d, clock)
}

func mustNotMinute(t *testing.T, d api.Date, clock int) {
	t.Helper()
	got, err := Minute(d, clock)
	must(t, got, err, 0, api.ErrRange, "Minute(%v, %d)", d, clock)
}

// daytime is a date with a clock.
type daytime struct {
	date  api.Date
	clock int
}

func mustDate(t *testing.T, minute int, want daytime, wantErr api.Errno) {
	t.Helper()
	d, clock, err := DateOf(minute)
	must(t, daytime{d, clock}, err, want, wantErr, "DateOf(%d)", minute)
}

func mustWeekday(t *testing.T, minute, want int, wantErr api.Errno) {
	t.Helper()
	got, err := Weekday(minute)
	must(t, got, err, want, wantErr, "Weekday(%d)", minute)
}

func mustStart(t *testing.T, unit, minute, want int, wantErr api.Errno) {
	t.Helper()
	got, err := Start(unit, minute)
	must(t, got, err, want, wantErr, "Start(%d, %d)", unit, minute)
}

func mustAdd(t *testing.T, minute, unit, n, want int, wantErr api.Errno) {
	t.Helper()
	got, err := Add(minute, unit, n)
	must(t, got, err, want, wantErr, "Add(%d, %d, %d)", minute, unit, n)
}

func mustParse(t *testing.T, s string, want int) {
	t.Helper()
	got, err := Parse(s)
	must(t, got, err, want, api.OK, "Parse(%q)", s)
}

// mustNotParse checks that the texts have an error.
func mustNotParse(t *testing.T, wantErr api.Errno, texts ...string) {
	t.Helper()
	for _, s := range texts {
		got, err := Parse(s)
		must(t, got, err, 0, wantErr, "Parse(%.99q)", s)
	}
}

func mustFormat(t *testing.T, pattern string, minute int, want string, wantErr api.Errno) {
	t.Helper()
	got, err := Format(pattern, minute)
	must(t, got, err, want, wantErr, "Format(%.99q, %d)", pattern, minute)
}

func mustUnit(t *testing.T, want int, patterns ...string) {
	t.Helper()
	for _, pattern := range patterns {
		if got := Unit(pattern); got != want {
			t.Fatalf("Unit(%.99q) = %d, want %d", pattern, got, want)
		}
	}
}

// P7.1

func TestMinute(t *testing.T) {
	mustMinute(t, date(2000, 1, 1), 0, 0)
	mustMinute(t, date(2000, 1, 1), 1439, 1439)
	mustMinute(t, date(2000, 1, 2), 0, 1440)
	mustMinute(t, date(2000, 2, 1), 0, 31*1440)
	mustMinute(t, date(2000, 2, 29), 0, 59*1440)
	mustMinute(t, date(2000, 3, 1), 0, 60*1440)
	mustMinute(t, date(2000, 12, 31), 1439, 366*1440-1)
	mustMinute(t, date(2001, 1, 1), 0, 366*1440)
	mustMinute(t, date(2001, 3, 1), 0, (366+59)*1440)
	mustMinute(t, date(2004, 3, 1), 30, (1461+60)*1440+30)
	mustMinute(t, date(2099, 12, 31), 0, end-1440)
	mustMinute(t, date(2099, 12, 31), 1439, end-1)
}

func TestDateOf(t *testing.T) {
	mustDate(t, 0, daytime{date(2000, 1, 1), 0}, api.OK)
	mustDate(t, 1439, daytime{date(2000, 1, 1), 1439}, api.OK)
	mustDate(t, 1440, daytime{date(2000, 1, 2), 0}, api.OK)
	mustDate(t, 60*1440-1, daytime{date(2000, 2, 29), 1439}, api.OK)
	mustDate(t, 366*1440-1, daytime{date(2000, 12, 31), 1439}, api.OK)
	mustDate(t, 366*1440, daytime{date(2001, 1, 1), 0}, api.OK)
	mustDate(t, end-1, daytime{date(2099, 12, 31), 1439}, api.OK)
	for _, minute := range outside() {
		mustDate(t, minute, daytime{}, api.ErrRange)
	}
}

func TestWeekday(t *testing.T) {
	mustWeekday(t, 0, 6, api.OK)
	mustWeekday(t, 1439, 6, api.OK)
	mustWeekday(t, 1440, 7, api.OK)
	mustWeekday(t, 2879, 7, api.OK)
	mustWeekday(t, 2880, 1, api.OK)
	mustWeekday(t, at(2024, 2, 29, 23, 59), 4, api.OK)
	mustWeekday(t, at(2024, 3, 1, 0, 0), 5, api.OK)
	mustWeekday(t, end-1, 4, api.OK)
	for _, minute := range outside() {
		mustWeekday(t, minute, 0, api.ErrRange)
	}
}

func TestAllDays(t *testing.T) {
	for day := 0; day < end; day += 1440 {
		x := timeOf(day)
		d := date(x.Year(), int(x.Month()), x.Day())
		weekday := int(x.Weekday())
		if weekday == 0 {
			weekday = 7
		}
		for _, clock := range clocks() {
			mustMinute(t, d, clock, day+clock)
			mustDate(t, day+clock, daytime{d, clock}, api.OK)
			mustWeekday(t, day+clock, weekday, api.OK)
		}
	}
}

func TestAllClocks(t *testing.T) {
	for _, d := range []api.Date{date(2000, 1, 1), date(2023, 2, 28), date(2024, 2, 29), date(2099, 12, 31)} {
		day := at(d.Year, d.Month, d.Day, 0, 0)
		for clock := range 1440 {
			mustMinute(t, d, clock, day+clock)
			mustDate(t, day+clock, daytime{d, clock}, api.OK)
		}
	}
}

func TestLastDayOfEachMonth(t *testing.T) {
	for year := 2000; year <= 2099; year++ {
		for i, last := range []int{31, 28, 31, 30, 31, 30, 31, 31, 30, 31, 30, 31} {
			if i == 1 && year%4 == 0 {
				last = 29
			}
			mustMinute(t, date(year, i+1, last), 0, at(year, i+1, last, 0, 0))
			mustNotMinute(t, date(year, i+1, last+1), 0)
			mustNotMinute(t, date(year, i+1, 0), 0)
		}
	}
}

func TestDatesThatDoNotExist(t *testing.T) {
	for year := 1990; year <= 2110; year++ {
		for month := -2; month <= 15; month++ {
			for day := -2; day <= 34; day++ {
				d := date(year, month, day)
				x := time.Date(year, time.Month(month), day, 0, 0, 0, 0, time.UTC)
				if exists := d == date(x.Year(), int(x.Month()), x.Day()); exists && 2000 <= year && year <= 2099 {
					mustMinute(t, d, 7, instantOf(x)+7)
					continue
				}
				mustNotMinute(t, d, 7)
			}
		}
	}
}

func TestMinuteOfAnyNumbers(t *testing.T) {
	// The last three would be 12 if their upper bits were lost.
	for _, n := range append(extremes(), 1<<32+12, -1<<32+12, math.MinInt+12) {
		mustNotMinute(t, date(n, 5, 17), 0)
		mustNotMinute(t, date(2024, n, 17), 0)
		mustNotMinute(t, date(2024, 5, n), 0)
		mustNotMinute(t, date(2024, 5, 17), n)
		mustNotMinute(t, date(n, n, n), n)
	}
	for _, n := range []int{0, 1, 24, 99, 100, 1900, 1999, 2100, 2101, 2400, -2024} {
		mustNotMinute(t, date(n, 5, 17), 0)
	}
	for _, n := range []int{-1, -1440, 1440, 1441, 2880, end} {
		mustNotMinute(t, date(2024, 5, 17), n)
		mustNotMinute(t, date(2000, 1, 1), n)
		mustNotMinute(t, date(2099, 12, 31), n)
	}
	mustNotMinute(t, api.Date{}, 0)
}

// P7.2

// wordsStart reads P7.2 for units and instants by its words.
func wordsStart(unit, minute int) int {
	x := timeOf(minute)
	switch unit {
	case 2:
		return at(x.Year(), int(x.Month()), x.Day(), x.Hour(), 0)
	case 3:
		return at(x.Year(), int(x.Month()), x.Day(), 0, 0)
	case 4:
		return at(x.Year(), int(x.Month()), 1, 0, 0)
	case 5:
		return at(x.Year(), 1, 1, 0, 0)
	}
	return minute
}

func TestStart(t *testing.T) {
	minute := at(2024, 5, 17, 13, 45)
	mustStart(t, api.UnitMinute, minute, minute, api.OK)
	mustStart(t, api.UnitHour, minute, at(2024, 5, 17, 13, 0), api.OK)
	mustStart(t, api.UnitDay, minute, at(2024, 5, 17, 0, 0), api.OK)
	mustStart(t, api.UnitMonth, minute, at(2024, 5, 1, 0, 0), api.OK)
	mustStart(t, api.UnitYear, minute, at(2024, 1, 1, 0, 0), api.OK)
	for unit := 1; unit <= 5; unit++ {
		mustStart(t, unit, 0, 0, api.OK)
		mustStart(t, unit, at(2099, 1, 1, 0, 0), at(2099, 1, 1, 0, 0), api.OK)
		mustStart(t, unit, end-1, []int{end - 1, end - 60, end - 1440, end - 31*1440, end - 365*1440}[unit-1], api.OK)
	}
}

func TestStartAtEachBeginning(t *testing.T) {
	for day := 0; day < end; day += 1440 {
		for _, clock := range clocks() {
			for unit := 1; unit <= 5; unit++ {
				mustStart(t, unit, day+clock, wordsStart(unit, day+clock), api.OK)
			}
		}
	}
}

func TestStartOfRandomInstants(t *testing.T) {
	random := rand.New(rand.NewSource(7))
	for range 50000 {
		minute := randomInstant(random)
		for unit := 1; unit <= 5; unit++ {
			start := wordsStart(unit, minute)
			mustStart(t, unit, minute, start, api.OK)
			mustStart(t, unit, start, start, api.OK)
		}
	}
}

func TestStartErrors(t *testing.T) {
	for _, unit := range append(extremes(), -1, 0, 6, 7, 60, 1<<32+1) {
		for _, minute := range append(outside(), 0, 1, end-1) {
			mustStart(t, unit, minute, 0, api.ErrRange)
		}
	}
	for unit := 1; unit <= 5; unit++ {
		for _, minute := range outside() {
			mustStart(t, unit, minute, 0, api.ErrRange)
		}
	}
}

// P7.3

// wordsAdd reads P7.3 for units and instants by its words.
func wordsAdd(minute, unit, n int) (int, api.Errno) {
	if unit >= 4 {
		return wordsAddMonths(minute, unit, n)
	}
	sum := big.NewInt([]int64{1, 60, 1440}[unit-1])
	sum.Mul(sum, big.NewInt(int64(n))).Add(sum, big.NewInt(int64(minute)))
	if sum.Sign() < 0 || sum.Cmp(big.NewInt(end)) >= 0 {
		return 0, api.ErrOverflow
	}
	return int(sum.Int64()), api.OK
}

// wordsAddMonths reads P7.3 for months and years by its words.
func wordsAddMonths(minute, unit, n int) (int, api.Errno) {
	if n < -1200 || n > 1200 {
		return 0, api.ErrOverflow
	}
	if unit == 5 {
		n *= 12
	}
	x := timeOf(minute)
	first := time.Date(x.Year(), x.Month(), 1, x.Hour(), x.Minute(), 0, 0, time.UTC).AddDate(0, n, 0)
	if first.Year() < 2000 || first.Year() > 2099 {
		return 0, api.ErrOverflow
	}
	y := first.AddDate(0, 0, x.Day()-1)
	for y.Month() != first.Month() {
		y = y.AddDate(0, 0, -1)
	}
	return instantOf(y), api.OK
}

func mustAddAsWords(t *testing.T, minute, unit, n int) {
	t.Helper()
	want, wantErr := wordsAdd(minute, unit, n)
	mustAdd(t, minute, unit, n, want, wantErr)
}

func TestAdd(t *testing.T) {
	minute := at(2024, 5, 17, 13, 45)
	for unit := 1; unit <= 5; unit++ {
		mustAdd(t, minute, unit, 0, minute, api.OK)
	}
	mustAdd(t, minute, api.UnitMinute, 1, at(2024, 5, 17, 13, 46), api.OK)
	mustAdd(t, minute, api.UnitMinute, -46, at(2024, 5, 17, 12, 59), api.OK)
	mustAdd(t, minute, api.UnitHour, 1, at(2024, 5, 17, 14, 45), api.OK)
	mustAdd(t, minute, api.UnitHour, -14, at(2024, 5, 16, 23, 45), api.OK)
	mustAdd(t, minute, api.UnitDay, 1, at(2024, 5, 18, 13, 45), api.OK)
	mustAdd(t, minute, api.UnitDay, -17, at(2024, 4, 30, 13, 45), api.OK)
	mustAdd(t, minute, api.UnitMonth, 1, at(2024, 6, 17, 13, 45), api.OK)
	mustAdd(t, minute, api.UnitMonth, 8, at(2025, 1, 17, 13, 45), api.OK)
	mustAdd(t, minute, api.UnitMonth, -5, at(2023, 12, 17, 13, 45), api.OK)
	mustAdd(t, minute, api.UnitMonth, -12, at(2023, 5, 17, 13, 45), api.OK)
	mustAdd(t, minute, api.UnitYear, 1, at(2025, 5, 17, 13, 45), api.OK)
	mustAdd(t, minute, api.UnitYear, -24, at(2000, 5, 17, 13, 45), api.OK)
}

func TestAddToTheLastDay(t *testing.T) {
	mustAdd(t, at(2023, 1, 31, 8, 0), api.UnitMonth, 1, at(2023, 2, 28, 8, 0), api.OK)
	mustAdd(t, at(2023, 1, 30, 8, 0), api.UnitMonth, 1, at(2023, 2, 28, 8, 0), api.OK)
	mustAdd(t, at(2023, 1, 29, 8, 0), api.UnitMonth, 1, at(2023, 2, 28, 8, 0), api.OK)
	mustAdd(t, at(2023, 1, 28, 8, 0), api.UnitMonth, 1, at(2023, 2, 28, 8, 0), api.OK)
	mustAdd(t, at(2024, 1, 31, 23, 59), api.UnitMonth, 1, at(2024, 2, 29, 23, 59), api.OK)
	mustAdd(t, at(2024, 1, 29, 8, 0), api.UnitMonth, 1, at(2024, 2, 29, 8, 0), api.OK)
	mustAdd(t, at(2024, 2, 29, 8, 0), api.UnitMonth, 1, at(2024, 3, 29, 8, 0), api.OK)
	mustAdd(t, at(2024, 3, 31, 8, 0), api.UnitMonth, -1, at(2024, 2, 29, 8, 0), api.OK)
	mustAdd(t, at(2023, 3, 31, 8, 0), api.UnitMonth, -1, at(2023, 2, 28, 8, 0), api.OK)
	mustAdd(t, at(2023, 1, 31, 8, 0), api.UnitMonth, -2, at(2022, 11, 30, 8, 0), api.OK)
	mustAdd(t, at(2023, 1, 31, 8, 0), api.UnitMonth, 2, at(2023, 3, 31, 8, 0), api.OK)
	mustAdd(t, at(2023, 8, 31, 8, 0), api.UnitMonth, 1, at(2023, 9, 30, 8, 0), api.OK)
	mustAdd(t, at(2023, 12, 31, 8, 0), api.UnitMonth, 6, at(2024, 6, 30, 8, 0), api.OK)
	mustAdd(t, at(2024, 2, 29, 8, 0), api.UnitYear, 1, at(2025, 2, 28, 8, 0), api.OK)
	mustAdd(t, at(2024, 2, 29, 8, 0), api.UnitYear, -1, at(2023, 2, 28, 8, 0), api.OK)
	mustAdd(t, at(2024, 2, 29, 8, 0), api.UnitYear, 4, at(2028, 2, 29, 8, 0), api.OK)
	mustAdd(t, at(2023, 2, 28, 8, 0), api.UnitYear, 1, at(2024, 2, 28, 8, 0), api.OK)
	mustAdd(t, at(2024, 2, 29, 8, 0), api.UnitMonth, 12, at(2025, 2, 28, 8, 0), api.OK)
}

func TestAddUpToTheEnds(t *testing.T) {
	for _, x := range []struct{ minute, unit, n, want int }{
		{0, api.UnitMinute, end - 1, end - 1}, {end - 1, api.UnitMinute, 1 - end, 0}, {5, api.UnitMinute, -5, 0},
		{0, api.UnitHour, end/60 - 1, end - 60}, {end - 1, api.UnitHour, 1 - end/60, 59}, {60, api.UnitHour, -1, 0},
		{0, api.UnitDay, 36524, end - 1440}, {end - 1, api.UnitDay, -36524, 1439}, {1440, api.UnitDay, -1, 0},
		{0, api.UnitMonth, 1199, at(2099, 12, 1, 0, 0)}, {end - 1, api.UnitMonth, -1199, at(2000, 1, 31, 23, 59)},
		{at(2099, 11, 30, 23, 59), api.UnitMonth, 1, at(2099, 12, 30, 23, 59)}, {at(2000, 2, 1, 0, 0), api.UnitMonth, -1, 0},
		{0, api.UnitYear, 99, at(2099, 1, 1, 0, 0)}, {end - 1, api.UnitYear, -99, at(2000, 12, 31, 23, 59)}, {at(2001, 1, 1, 0, 0), api.UnitYear, -1, 0},
	} {
		mustAdd(t, x.minute, x.unit, x.n, x.want, api.OK)
		if x.n > 0 {
			mustAdd(t, x.minute, x.unit, x.n+1, 0, api.ErrOverflow)
		} else {
			mustAdd(t, x.minute, x.unit, x.n-1, 0, api.ErrOverflow)
		}
	}
	for unit := 1; unit <= 5; unit++ {
		mustAdd(t, 0, unit, -1, 0, api.ErrOverflow)
		mustAdd(t, end-1, unit, 1, 0, api.ErrOverflow)
	}
}

func TestAddOfAnyNumber(t *testing.T) {
	numbers := extremes()
	for shift := range 63 {
		for _, factor := range []int{1, 3, 5, 15} {
			n := factor << shift
			numbers = append(numbers, n-1, n, n+1, -n-1, -n, 1-n)
		}
	}
	// Numbers that wrap around to small ones when they are multiplied by 12, 60 or 1440.
	for _, factor := range []int{12, 60, 1440} {
		n := math.MaxInt / factor * 2
		numbers = append(numbers, n, n+1, n+2, n+3, -n, -n-1, -n-2, -n-3, n/2, n/2+1, -n/2, -n/2-1)
	}
	for _, minute := range []int{0, 1, 1440, at(2050, 6, 30, 12, 30), end - 1} {
		for unit := 1; unit <= 5; unit++ {
			for _, n := range numbers {
				mustAddAsWords(t, minute, unit, n)
			}
		}
	}
}

func TestAddMonthsToEachDay(t *testing.T) {
	for _, year := range []int{2000, 2001, 2023, 2024, 2099} {
		for minute := at(year, 1, 1, 8, 30); minute < at(year+1, 1, 1, 0, 0); minute += 1440 {
			for n := -30; n <= 30; n++ {
				mustAddAsWords(t, minute, api.UnitMonth, n)
				mustAddAsWords(t, minute, api.UnitYear, n)
			}
		}
	}
}

func TestAddToRandomInstants(t *testing.T) {
	random := rand.New(rand.NewSource(7))
	for range 50000 {
		minute := randomInstant(random)
		for unit, most := range []int{end, end / 60, 36525, 1200, 100} {
			mustAddAsWords(t, minute, unit+1, random.Intn(2*most+1)-most)
		}
	}
}

func TestAddErrorsInOrder(t *testing.T) {
	numbers := []int{0, 1, -1, 100, math.MinInt, math.MaxInt}
	for _, n := range numbers {
		for _, minute := range outside() {
			for unit := -1; unit <= 7; unit++ {
				mustAdd(t, minute, unit, n, 0, api.ErrRange)
			}
		}
		for _, unit := range append(extremes(), -1, 0, 6, 7, 60, 1<<32+1) {
			for _, minute := range []int{0, 1440, end - 1} {
				mustAdd(t, minute, unit, n, 0, api.ErrRange)
			}
		}
	}
	// Instants outside of the range have no results, even if those would be in it.
	mustAdd(t, -1, api.UnitMinute, 1, 0, api.ErrRange)
	mustAdd(t, end, api.UnitDay, -1, 0, api.ErrRange)
	mustAdd(t, end, api.UnitMonth, -1, 0, api.ErrRange)
}

// P7.4

var datePattern = regexp.MustCompile(`\A([0-9]{4})-([0-9]{2})-([0-9]{2})(?: ([0-9]{2}):([0-9]{2}))?\z`)

// wordsParse reads P7.4 by its words.
func wordsParse(s string) (int, api.Errno) {
	groups := datePattern.FindStringSubmatch(s)
	if groups == nil {
		return 0, api.ErrSyntax
	}
	var n [5]int
	for i := range n {
		// A text without a clock has no groups 4 and 5, so that these are 0.
		n[i], _ = strconv.Atoi(groups[i+1])
	}
	x := time.Date(n[0], time.Month(n[1]), n[2], 0, 0, 0, 0, time.UTC)
	exists := date(n[0], n[1], n[2]) == date(x.Year(), int(x.Month()), x.Day())
	if !exists || n[0] < 2000 || n[0] > 2099 || n[3] > 23 || n[4] > 59 {
		return 0, api.ErrRange
	}
	return at(n[0], n[1], n[2], n[3], n[4]), api.OK
}

func mustParseAsWords(t *testing.T, s string) {
	t.Helper()
	want, wantErr := wordsParse(s)
	got, err := Parse(s)
	must(t, got, err, want, wantErr, "Parse(%.99q)", s)
}

func TestParse(t *testing.T) {
	mustParse(t, "2000-01-01", 0)
	mustParse(t, "2000-01-01 00:00", 0)
	mustParse(t, "2000-01-02 01:01", 1501)
	mustParse(t, "2000-12-31", 365*1440)
	mustParse(t, "2024-02-29", at(2024, 2, 29, 0, 0))
	mustParse(t, "2024-02-29 00:00", at(2024, 2, 29, 0, 0))
	mustParse(t, "2024-02-29 07:05", at(2024, 2, 29, 7, 5))
	mustParse(t, "2024-02-29 23:59", at(2024, 2, 29, 23, 59))
	mustParse(t, "2024-10-09 18:30", at(2024, 10, 9, 18, 30))
	mustParse(t, "2099-12-31", end-1440)
	mustParse(t, "2099-12-31 23:59", end-1)
}

func TestParseOfDatesThatDoNotExist(t *testing.T) {
	mustNotParse(t, api.ErrRange, "1999-12-31", "1999-12-31 23:59", "2100-01-01", "0000-00-00", "0000-01-01", "0024-05-17", "9999-12-31", "2400-02-29",
		"2023-00-10", "2023-13-10", "2023-99-10", "2023-05-00", "2023-05-32", "2023-05-99", "2023-04-31", "2023-02-29", "2024-02-30", "2023-02-29 10:00", "2100-02-29",
		"2023-05-17 24:00", "2023-05-17 24:59", "2023-05-17 23:60", "2023-05-17 00:60", "2023-05-17 10:99", "2023-05-17 99:00", "2023-05-17 22:75", "2000-01-01 00:99",
		"9999-99-99 99:99", "0000-00-00 00:00")
}

func TestParseOfOtherForms(t *testing.T) {
	mustNotParse(t, api.ErrSyntax, "", " ", "2024", "2024-05", "2024-05-", "24-05-17", "2024-5-17", "2024-05-7", "02024-05-17", "20240517", "2024-0517",
		"2024/05/17", "2024.05.17", "17.05.2024", "2024-05-17 ", " 2024-05-17", "2024-05-17T10:00", "2024-05-17  10:00", "2024-05-17\t10:00", "2024-05-17 10", "2024-05-17 10:",
		"2024-05-17 10:0", "2024-05-17 1:00", "2024-05-17 1:000", "2024-05-17 10.00", "2024-05-17 1000", "2024-05-17 10:00 ", "2024-05-17 10:00:00", "2024-05-17 10:00Z", "2024-05-1710:00",
		"-024-05-17", "+024-05-17", "2024--5-17", "2024-+5-17", "2024-05--1", "2024-05-17 -1:00", "2024-05-17 +1:00", "2024-05-17 10:-1", "2024-05- 7", "2024- 5-17", " 024-05-17",
		"2024-05-1x", "20x4-05-17", "0x7e-05-17", "2_24-05-17", "YYYY-MM-DD", "2024-05-17\n", "2024-05-17 10:00\n", "2024\x0005-17", "2024-05-17\x00", "\xff024-05-17",
		"\u0662024-05-17", "2024-05-\uff11", "\uff12\uff10\uff12\uff14-05-17", "2024\u201305\u201317", "2024-05-17\u00a010:00", "2024-05-17 10\uff1a00")
}

func TestParseErrorsInOrder(t *testing.T) {
	mustNotParse(t, api.ErrSyntax, "1999-13-3x", "1999-13-32x", "1999-13-32 ", "1999-13-32 24:6x", "2023-02-29 25:61 ", "x999-99-99", "9999-99-99 99-99", "9999-99-99 99:9")
}

func TestParseOfAllDays(t *testing.T) {
	for day := 0; day < end; day += 1440 {
		x := timeOf(day)
		mustParse(t, x.Format("2006-01-02"), day)
		for _, clock := range clocks() {
			mustParse(t, timeOf(day+clock).Format("2006-01-02 15:04"), day+clock)
		}
	}
}

func TestParseOfAllClocks(t *testing.T) {
	for hour := range 100 {
		for minute := range 100 {
			mustParseAsWords(t, fmt.Sprintf("2024-02-29 %02d:%02d", hour, minute))
		}
	}
	for month := range 100 {
		for day := range 100 {
			mustParseAsWords(t, fmt.Sprintf("2023-%02d-%02d", month, day))
			mustParseAsWords(t, fmt.Sprintf("2024-%02d-%02d 12:34", month, day))
		}
	}
	for year := range 10000 {
		mustParseAsWords(t, fmt.Sprintf("%04d-02-28", year))
		mustParseAsWords(t, fmt.Sprintf("%04d-12-31 23:59", year))
	}
}

func TestParseWithEachByte(t *testing.T) {
	for _, s := range []string{"2024-02-29", "2024-02-29 13:45", "2011-11-11 11:11", "9999-99-99 99:99"} {
		for i := range len(s) + 1 {
			for c := range 256 {
				b := string([]byte{byte(c)})
				mustParseAsWords(t, s[:i]+b+s[i:])
				if i < len(s) {
					mustParseAsWords(t, s[:i]+b+s[i+1:])
				}
			}
			mustParseAsWords(t, s[:i])
			mustParseAsWords(t, s[i:])
		}
	}
}

func TestParseAllShortTexts(t *testing.T) {
	sample.Texts(6, []string{"2024-", "02-29", "11", "-", " ", "23:59", "30", "\xff"}, func(s string) { mustParseAsWords(t, s) })
}

func TestParseLongTexts(t *testing.T) {
	for _, s := range []string{"2", "-", " ", "\xff", "2024-02-29", "2024-02-29 "} {
		mustNotParse(t, api.ErrSyntax, strings.Repeat(s, 1<<18), "2024-02-29"+strings.Repeat(s, 1<<18))
	}
}

// P7.5

// wordsCode returns what a code stands for, or c itself if it is no code.
func wordsCode(c string, minute int) string {
	x := timeOf(minute)
	switch c {
	case "z":
		return strconv.Itoa(x.YearDay() - 1)
	case "N":
		return strconv.Itoa((int(x.Weekday())+6)%7 + 1)
	case "G":
		return strconv.Itoa(x.Hour())
	}
	layouts := map[string]string{"Y": "2006", "m": "01", "n": "1", "F": "January", "M": "Jan", "d": "02", "j": "2", "l": "Monday", "D": "Mon", "H": "15", "i": "04"}
	if layout, ok := layouts[c]; ok {
		return x.Format(layout)
	}
	return c
}

// wordsFormat reads P7.5 for instants and patterns that are not too long by its words.
func wordsFormat(pattern string, minute int) string {
	text := ""
	for pattern != "" {
		if len(pattern) >= 2 && pattern[0] == '\\' {
			text, pattern = text+pattern[1:2], pattern[2:]
			continue
		}
		text, pattern = text+wordsCode(pattern[:1], minute), pattern[1:]
	}
	return text
}

func mustFormatAsWords(t *testing.T, pattern string, minute int) {
	t.Helper()
	mustFormat(t, pattern, minute, wordsFormat(pattern, minute), api.OK)
}

func TestFormat(t *testing.T) {
	all := "Y m n F M d j z N l D H G i"
	mustFormat(t, all, at(2024, 2, 9, 7, 5), "2024 02 2 February Feb 09 9 39 5 Friday Fri 07 7 05", api.OK)
	mustFormat(t, all, at(2023, 11, 30, 19, 45), "2023 11 11 November Nov 30 30 333 4 Thursday Thu 19 19 45", api.OK)
	mustFormat(t, all, 0, "2000 01 1 January Jan 01 1 0 6 Saturday Sat 00 0 00", api.OK)
	mustFormat(t, all, end-1, "2099 12 12 December Dec 31 31 364 4 Thursday Thu 23 23 59", api.OK)
	mustFormat(t, all, at(2024, 12, 31, 10, 10), "2024 12 12 December Dec 31 31 365 2 Tuesday Tue 10 10 10", api.OK)
	mustFormat(t, "j F Y", at(2024, 2, 29, 0, 0), "29 February 2024", api.OK)
	mustFormat(t, "YY", 0, "20002000", api.OK)
	mustFormat(t, "Ymd", 0, "20000101", api.OK)
	mustFormat(t, "", 0, "", api.OK)
}

func TestFormatOfNames(t *testing.T) {
	for i, name := range []string{"January", "February", "March", "April", "May", "June", "July", "August", "September", "October", "November", "December"} {
		mustFormat(t, "F/M", at(2023, i+1, 15, 0, 0), name+"/"+name[:3], api.OK)
	}
	for i, name := range []string{"Monday", "Tuesday", "Wednesday", "Thursday", "Friday", "Saturday", "Sunday"} {
		mustFormat(t, "N l/D", at(2023, 5, 1+i, 0, 0), fmt.Sprintf("%d %s/%s", i+1, name, name[:3]), api.OK)
	}
}

func TestFormatWithBackslashes(t *testing.T) {
	minute := at(2024, 2, 29, 7, 5)
	for pattern, want := range map[string]string{
		`\`: `\`, `\\`: `\`, `\\\`: `\\`, `\\\\`: `\\`,
		`\Y`: "Y", `\\Y`: `\2024`, `\\\Y`: `\Y`, `\\\\Y`: `\\2024`, `Y\`: `2024\`, `Y\\`: `2024\`, `\Y\`: `Y\`, `\YY`: "Y2024", `Y\Y`: "2024Y",
		`\x`: "x", `\ Y`: " 2024", `\i Y`: "i 2024", `\Y\\\i\`: `Y\i\`, "\\\x00": "\x00", "\\\xff": "\xff", "\\\u00e9": "\u00e9", "\\\nY": "\n2024", `\l \D\a\y`: "l Day",
	} {
		mustFormat(t, pattern, minute, want, api.OK)
	}
	for _, c := range allCodes {
		mustFormat(t, `\`+string(c), minute, string(c), api.OK)
	}
}

func TestFormatOfEachByte(t *testing.T) {
	minute := at(2024, 2, 29, 7, 5)
	for c := range 256 {
		b := string([]byte{byte(c)})
		if c == '\\' || strings.Contains(allCodes, b) {
			continue
		}
		mustFormat(t, b, minute, b, api.OK)
		mustFormat(t, "\\"+b+b+"Y"+b, minute, b+b+"2024"+b, api.OK)
	}
	mustFormat(t, "Y\u00e9\u2014\U0001f600\xff", minute, "2024\u00e9\u2014\U0001f600\xff", api.OK)
}

func TestFormatOfAllDays(t *testing.T) {
	for day := 0; day < end; day += 1440 {
		mustFormatAsWords(t, "Y m n F M d j z N l D", day)
		mustFormatAsWords(t, "z N Y-m-d H:i", day+1439)
	}
	for minute := range 2 * 1440 {
		mustFormatAsWords(t, "j H G i", at(2024, 2, 29, 0, 0)+minute)
	}
}

// patternPieces are pieces of patterns.
func patternPieces() []string {
	return append(strings.Split(allCodes, ""), `\`, `\`, " ", "x", "\xff", "\u00e9")
}

// randomPattern returns a pattern of at most maxPattern bytes.
func randomPattern(random *rand.Rand) string {
	var b strings.Builder
	pieces := patternPieces()
	for range random.Intn(maxPattern / 2) {
		b.WriteString(pieces[random.Intn(len(pieces))])
	}
	return b.String()
}

func TestFormatOfAllShortPatterns(t *testing.T) {
	random := rand.New(rand.NewSource(7))
	sample.Texts(3, patternPieces(), func(s string) { mustFormatAsWords(t, s, randomInstant(random)) })
}

func TestFormatOfRandomPatterns(t *testing.T) {
	random := rand.New(rand.NewSource(7))
	for range 2000 {
		mustFormatAsWords(t, randomPattern(random), randomInstant(random))
	}
}

func TestFormatLengths(t *testing.T) {
	for _, c := range []string{"x", "Y", "l", `\`, " ", "\xff"} {
		mustFormatAsWords(t, strings.Repeat(c, maxPattern-1), 0)
		mustFormatAsWords(t, strings.Repeat(c, maxPattern), 0)
		mustFormat(t, strings.Repeat(c, maxPattern+1), 0, "", api.ErrTooLarge)
		mustFormat(t, strings.Repeat(c, maxPattern+1), end-1, "", api.ErrTooLarge)
		mustFormat(t, strings.Repeat(c, 1<<18), 0, "", api.ErrTooLarge)
	}
	mustFormatAsWords(t, strings.Repeat("\u00e9", maxPattern/2), 0)
	mustFormat(t, strings.Repeat("\u00e9", maxPattern/2+1), 0, "", api.ErrTooLarge)
	mustFormat(t, strings.Repeat(`\Y`, maxPattern/2), 0, strings.Repeat("Y", maxPattern/2), api.OK)
	mustFormat(t, strings.Repeat("F", maxPattern), 8*31*1440, strings.Repeat("September", maxPattern), api.OK)
}

func TestFormatErrorsInOrder(t *testing.T) {
	for _, minute := range outside() {
		for _, pattern := range []string{"", "Y", "x", `\`, strings.Repeat("x", maxPattern), strings.Repeat("x", maxPattern+1), strings.Repeat("Y", 10000)} {
			mustFormat(t, pattern, minute, "", api.ErrRange)
		}
	}
}

// P7.6

// wordsUnit reads P7.6 by its words.
func wordsUnit(pattern string) int {
	codes := ""
	for pattern != "" {
		if len(pattern) >= 2 && pattern[0] == '\\' {
			pattern = pattern[2:]
			continue
		}
		codes, pattern = codes+pattern[:1], pattern[1:]
	}
	for unit, s := range []string{"i", "HG", "djzNlD", "mnFM"} {
		if strings.ContainsAny(codes, s) {
			return unit + 1
		}
	}
	return 5
}

func TestUnit(t *testing.T) {
	mustUnit(t, 1, "i", "Y-m-d H:i", "iY", "Hi", "di", "Mi", `\\i`, `\ii`, `i\`, `i\H`)
	mustUnit(t, 2, "H", "G", "d G", "HY", "jH", "FG", `H \i`, `\\H`, `\i\\G`)
	mustUnit(t, 3, "d", "j", "z", "N", "l", "D", "Y-m-d", "j F Y", "DY", `\H d`, `\i l`)
	mustUnit(t, 4, "m", "n", "F", "M", "F Y", "Ym", `\d m`, `\i\H\j M Y`)
	mustUnit(t, 5, "Y", "", "x", "xY", " ", `\`, `\\`, `\i Y`, `\i`, `\H\G\d\j\z\N\l\D\m\n\F\M\Y`, `Y\`, `\\\i`, "\xff", "\u00e9", "\x00")
}

func TestUnitOfEachByte(t *testing.T) {
	units := map[byte]int{'i': 1, 'H': 2, 'G': 2, 'd': 3, 'j': 3, 'z': 3, 'N': 3, 'l': 3, 'D': 3, 'm': 4, 'n': 4, 'F': 4, 'M': 4}
	for c := range 256 {
		b := string([]byte{byte(c)})
		want, ok := units[byte(c)]
		if !ok {
			want = 5
		}
		mustUnit(t, want, b, "x"+b, "Y"+b, b+"x", b+"Y", `\\`+b, b+`\`)
		mustUnit(t, 5, `\`+b, `\`+b+"x", `\`+b+"Y")
		mustUnit(t, 1, "i"+b, `\`+b+"i")
	}
}

// mustDependOn checks that only the unit of a pattern decides its result.
func mustDependOn(t *testing.T, pattern string, minute int) {
	t.Helper()
	unit := wordsUnit(pattern)
	mustUnit(t, unit, pattern)
	want, _ := Format(pattern, minute)
	mustFormat(t, pattern, wordsStart(unit, minute), want, api.OK)
}

func TestUnitOfAllShortPatterns(t *testing.T) {
	random := rand.New(rand.NewSource(7))
	sample.Texts(3, patternPieces(), func(s string) { mustDependOn(t, s, randomInstant(random)) })
}

func TestUnitOfRandomPatterns(t *testing.T) {
	random := rand.New(rand.NewSource(7))
	for range 2000 {
		mustDependOn(t, randomPattern(random), randomInstant(random))
	}
}

func TestUnitIsTheCoarsest(t *testing.T) {
	for _, c := range allCodes {
		// Here a new minute, hour, day, month or year begins, and nothing coarser.
		next := []int{at(2024, 5, 17, 13, 45), at(2024, 5, 17, 14, 0), at(2024, 5, 18, 0, 0), at(2024, 6, 1, 0, 0), at(2024, 1, 1, 0, 0)}[Unit(string(c))-1]
		before, _ := Format(string(c), next-1)
		after, _ := Format(string(c), next)
		if before == after {
			t.Errorf("Format(%q, %d) and Format(%q, %d) are %q", c, next-1, c, next, before)
		}
	}
}

func TestUnitOfLongPatterns(t *testing.T) {
	long := strings.Repeat("x", maxPattern+1)
	mustUnit(t, 5, long, long+"Y")
	mustUnit(t, 4, long+"F")
	mustUnit(t, 3, long+"d")
	mustUnit(t, 2, long+"H")
	mustUnit(t, 1, long+"i")
	mustUnit(t, 5, strings.Repeat(`\i`, 1<<18), strings.Repeat(`\`, 1<<18+1))
	mustUnit(t, 1, strings.Repeat(`\`, 1<<18)+"i")
	mustUnit(t, 5, strings.Repeat(`\`, 1<<18+1)+"i")
}
