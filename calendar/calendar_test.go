package calendar_test

import (
	"math"
	"slices"
	"testing"

	"hydrocascade/api"
	"hydrocascade/calendar"
	"hydrocascade/samples"
)

const (
	perYear  = api.PerDay * api.PerYear // steps of a year
	lastDay  = api.PerYear - 1
	lastStep = api.PerDay - 1

	// The parts of the step api.MaxTime.
	endYear, endDay, endStep = 478, 292, 64
)

// parts are the year, the day of the year and the number within the day of a step.
type parts struct{ year, day, step int }

func expectParts(t *testing.T, time int, want parts, code api.Errno) {
	t.Helper()
	year, day, step, gotCode := calendar.Of(time)
	if got := (parts{year, day, step}); got != want || gotCode != code {
		t.Errorf("Of(%d) = %v, %d; want %v, %d", time, got, gotCode, want, code)
	}
	if got, gotCode := calendar.Day(time); got != want.day || gotCode != code {
		t.Errorf("Day(%d) = %d, %d; want %d, %d", time, got, gotCode, want.day, code)
	}
}

func expectTime(t *testing.T, name string, p parts, want int, code api.Errno) {
	t.Helper()
	if got, gotCode := calendar.Time(p.year, p.day, p.step); got != want || gotCode != code {
		t.Errorf("%s: Time(%d, %d, %d) = %d, %d; want %d, %d", name, p.year, p.day, p.step, got, gotCode, want, code)
	}
}

// P4.1
func TestStepsAndPartsOfNamedCases(t *testing.T) {
	for _, c := range []struct {
		name string
		time int
		parts
	}{
		{"the first step", 0, parts{0, 0, 0}},
		{"the second step", 1, parts{0, 0, 1}},
		{"the last step of the first day", 95, parts{0, 0, 95}},
		{"the chapter's example", 96, parts{0, 1, 0}},
		{"the last step of a day", 96*200 - 1, parts{0, 199, 95}},
		{"the first step of the next day", 96 * 200, parts{0, 200, 0}},
		{"the first step of the last day", perYear - 96, parts{0, 364, 0}},
		{"the last step of the first year", perYear - 1, parts{0, 364, 95}},
		{"the first step of the second year", perYear, parts{1, 0, 0}},
		{"the last step of a year", 300*perYear - 1, parts{299, 364, 95}},
		{"the first step of the next year", 300 * perYear, parts{300, 0, 0}},
		{"within a year", 3*perYear + 96*31 + 7, parts{3, 31, 7}},
		{"a year of 366 days would be over", 4*perYear + 96*59, parts{4, 59, 0}},
		{"the last step of the last year that is whole", endYear*perYear - 1, parts{endYear - 1, lastDay, lastStep}},
		{"the first step of the last year", endYear * perYear, parts{endYear, 0, 0}},
		{"the step before the greatest", api.MaxTime - 1, parts{endYear, endDay, endStep - 1}},
		{"the greatest step", api.MaxTime, parts{endYear, endDay, endStep}},
	} {
		expectParts(t, c.time, c.parts, api.OK)
		expectTime(t, c.name, c.parts, c.time, api.OK)
	}
}

// P4.1, R3
func TestOfAndDayRefuseTimesOutOfRange(t *testing.T) {
	for _, time := range []int{-1, -95, -96, -perYear, -api.MaxTime, math.MinInt, api.MaxTime + 1, api.MaxTime + 96, api.MaxTime + perYear, math.MaxInt} {
		expectParts(t, time, parts{}, api.ErrTime)
	}
}

// P4.1, R3, R5: what is out of range decides before a step that is too great.
func TestTimeRefusesInvalidInputsInOrder(t *testing.T) {
	for _, c := range []struct {
		name string
		parts
		code api.Errno
	}{
		{"a year below 0", parts{-1, 0, 0}, api.ErrRange},
		{"a year below 0, made up for by the day", parts{-1, lastDay, lastStep}, api.ErrRange},
		{"the least int as year", parts{math.MinInt, 0, 0}, api.ErrRange},
		{"a year above the greatest", parts{api.MaxTime + 1, 0, 0}, api.ErrRange},
		{"a year at which the steps wrap around", parts{math.MaxInt/perYear + 1, 0, 0}, api.ErrRange},
		{"the greatest int as year", parts{math.MaxInt, 0, 0}, api.ErrRange},
		{"a day below 0", parts{1, -1, 0}, api.ErrRange},
		{"the least int as day", parts{1, math.MinInt, 0}, api.ErrRange},
		{"a day behind the last", parts{0, api.PerYear, 0}, api.ErrRange},
		{"the greatest int as day", parts{0, math.MaxInt, 0}, api.ErrRange},
		{"a number below 0", parts{1, 1, -1}, api.ErrRange},
		{"the least int as number", parts{1, 1, math.MinInt}, api.ErrRange},
		{"a number behind the last", parts{0, 0, api.PerDay}, api.ErrRange},
		{"the greatest int as number", parts{0, 0, math.MaxInt}, api.ErrRange},
		{"all below 0", parts{-1, -1, -1}, api.ErrRange},
		{"all too great", parts{api.MaxTime + 1, api.PerYear, api.PerDay}, api.ErrRange},
		{"all at the ends of int", parts{math.MinInt, math.MaxInt, math.MinInt}, api.ErrRange},
		{"the day below 0 and the number too great", parts{0, -1, api.PerDay}, api.ErrRange},
		{"a year too great for its step, the day below 0", parts{endYear + 1, -1, 0}, api.ErrRange},
		{"a year too great for its step, the day too great", parts{api.MaxTime, api.PerYear, 0}, api.ErrRange},
		{"a year too great for its step, the number below 0", parts{api.MaxTime, 0, -1}, api.ErrRange},
		{"a year too great for its step, the number too great", parts{endYear + 1, 0, api.PerDay}, api.ErrRange},
		{"a day too great just behind the greatest step", parts{endYear, api.PerYear, 0}, api.ErrRange},
		{"the next step behind the greatest", parts{endYear, endDay, endStep + 1}, api.ErrTime},
		{"the last step of its day", parts{endYear, endDay, lastStep}, api.ErrTime},
		{"the next day", parts{endYear, endDay + 1, 0}, api.ErrTime},
		{"the last step of its year", parts{endYear, lastDay, lastStep}, api.ErrTime},
		{"the next year", parts{endYear + 1, 0, 0}, api.ErrTime},
		{"a year in range whose step is far too great", parts{api.MaxTime - 1, 0, 0}, api.ErrTime},
		{"the greatest year", parts{api.MaxTime, 0, 0}, api.ErrTime},
		{"the greatest year, day and number", parts{api.MaxTime, lastDay, lastStep}, api.ErrTime},
	} {
		expectTime(t, c.name, c.parts, 0, c.code)
	}
}

// next returns the parts of the step behind one, as a clock turns over.
func next(p parts) parts {
	p.step++
	if p.step == api.PerDay {
		p.step = 0
		p.day++
	}
	if p.day == api.PerYear {
		p.day = 0
		p.year++
	}
	return p
}

// P4.1 and the consequence that Time of Of is the step, at each step that there is.
func TestEachStepFollowsTheOneBefore(t *testing.T) {
	want := parts{}
	for time := range api.MaxTime + 1 {
		year, day, step, code := calendar.Of(time)
		if got := (parts{year, day, step}); got != want || code != api.OK {
			t.Fatalf("Of(%d) = %v, %d; want %v", time, got, code, want)
		}
		if got, code := calendar.Day(time); got != want.day || code != api.OK {
			t.Fatalf("Day(%d) = %d, %d; want %d", time, got, code, want.day)
		}
		if got, code := calendar.Time(year, day, step); got != time || code != api.OK {
			t.Fatalf("Time of Of(%d) = %d, %d", time, got, code)
		}
		want = next(want)
	}
}

// yearDays are the days of a year that are in something.
type yearDays [api.PerYear]bool

// walked marks the days of a valid span by the promise, walking from its first day to its last one.
func walked(s api.Span) yearDays {
	var days yearDays
	day := s.From
	for day != s.To {
		days[day] = true
		day = (day + 1) % api.PerYear
	}
	days[day] = true
	return days
}

// listed returns the days, ascending.
func listed(days yearDays) []int {
	var list []int
	for day, isIn := range days {
		if isIn {
			list = append(list, day)
		}
	}
	return list
}

// common returns the days that are in both.
func common(a, b yearDays) yearDays {
	for day, isIn := range b {
		a[day] = a[day] && isIn
	}
	return a
}

// span is short, because the tables consist of it.
func span(from, to int) api.Span { return api.Span{From: from, To: to} }

// rest returns the span from To + 1 to From - 1.
func rest(s api.Span) api.Span {
	return span((s.To+1)%api.PerYear, (s.From+api.PerYear-1)%api.PerYear)
}

// notDays are numbers that are no days of the year, some of them those of days in other years.
var notDays = []int{math.MinInt, -api.PerYear - 1, -api.PerYear, -2, -1, api.PerYear, api.PerYear + 1, api.PerYear + 10, 2 * api.PerYear, math.MaxInt}

// invalidSpans are spans of which an end is no day of the year, each with ends that would do otherwise.
func invalidSpans() []api.Span {
	var spans []api.Span
	for _, bad := range notDays {
		for _, good := range []int{0, 7, lastDay} {
			spans = append(spans, span(bad, good), span(good, bad))
		}
		for _, other := range notDays {
			spans = append(spans, span(bad, other))
		}
	}
	return spans
}

// P4.2
func TestSpansOfNamedCases(t *testing.T) {
	for _, c := range []struct {
		name    string
		span    api.Span
		days    int
		in, out []int
	}{
		{"From less than To", span(10, 20), 11, []int{10, 11, 15, 19, 20}, []int{0, 9, 21, 364}},
		{"From less than To by 1", span(10, 11), 2, []int{10, 11}, []int{9, 12}},
		{"From equal to To", span(7, 7), 1, []int{7}, []int{0, 6, 8, 364}},
		{"the first day", span(0, 0), 1, []int{0}, []int{1, 364}},
		{"the last day", span(364, 364), 1, []int{364}, []int{0, 363}},
		{"from the first day on", span(0, 5), 6, []int{0, 1, 5}, []int{6, 364}},
		{"up to the last day", span(360, 364), 5, []int{360, 364}, []int{0, 359}},
		{"the whole year", span(0, 364), 365, []int{0, 1, 180, 363, 364}, nil},
		{"all but the first day", span(1, 364), 364, []int{1, 364}, []int{0}},
		{"all but the last day", span(0, 363), 364, []int{0, 363}, []int{364}},
		{"the chapter's example", span(360, 4), 10, []int{360, 361, 364, 0, 1, 4}, []int{5, 6, 180, 358, 359}},
		{"both ends of the year", span(364, 0), 2, []int{364, 0}, []int{1, 363}},
		{"around the end, one day more", span(363, 0), 3, []int{363, 364, 0}, []int{1, 362}},
		{"around the end, up to the first day", span(300, 0), 66, []int{300, 364, 0}, []int{1, 299}},
		{"around the end, from the last day on", span(364, 50), 52, []int{364, 0, 50}, []int{51, 363}},
		{"a whole year around its end", span(8, 7), 365, []int{0, 6, 7, 8, 9, 364}, nil},
		{"a whole year from the second day on", span(1, 0), 365, []int{0, 1, 2, 364}, nil},
		{"a whole year from the last day on", span(364, 363), 365, []int{0, 362, 363, 364}, nil},
		{"around the end, all but one day", span(9, 7), 364, []int{7, 9, 0, 364}, []int{8}},
	} {
		if !calendar.Valid(c.span) {
			t.Errorf("%s: %v is not valid", c.name, c.span)
		}
		if got := calendar.Days(c.span); got != c.days {
			t.Errorf("%s: Days(%v) = %d; want %d", c.name, c.span, got, c.days)
		}
		for _, day := range c.in {
			if !calendar.In(c.span, day) {
				t.Errorf("%s: %d is not in %v", c.name, day, c.span)
			}
		}
		for _, day := range slices.Concat(c.out, notDays) {
			if calendar.In(c.span, day) {
				t.Errorf("%s: %d is in %v", c.name, day, c.span)
			}
		}
	}
}

// P4.2
func TestSpansThatAreNotValidHaveNoDays(t *testing.T) {
	whole := span(0, lastDay)
	for _, bad := range invalidSpans() {
		if calendar.Valid(bad) {
			t.Errorf("%v is valid", bad)
		}
		if got := calendar.Days(bad); got != 0 {
			t.Errorf("Days(%v) = %d", bad, got)
		}
		for _, day := range slices.Concat(notDays, []int{0, 6, 7, 8, 180, lastDay, bad.From, bad.To}) {
			if calendar.In(bad, day) {
				t.Errorf("%d is in %v", day, bad)
			}
		}
		for _, pair := range [][2]api.Span{{bad, whole}, {whole, bad}, {bad, bad}} {
			if got := calendar.Both(pair[0], pair[1]); len(got) != 0 {
				t.Errorf("Both(%v, %v) = %v", pair[0], pair[1], got)
			}
		}
	}
}

// upTo returns the days from one to another one.
func upTo(from, to int) []int {
	var days []int
	for day := from; day <= to; day++ {
		days = append(days, day)
	}
	return days
}

// P4.2: the days of both ascend also where a span begins late in the year.
func TestBothOfNamedCases(t *testing.T) {
	for _, c := range []struct {
		name string
		a, b api.Span
		want []int
	}{
		{"all days", span(0, lastDay), span(0, lastDay), upTo(0, lastDay)},
		{"all days, around the end", span(0, lastDay), span(8, 7), upTo(0, lastDay)},
		{"all days of a span", span(10, 13), span(10, 13), []int{10, 11, 12, 13}},
		{"all days of a span around the end", span(362, 2), span(362, 2), []int{0, 1, 2, 362, 363, 364}},
		{"a span and the whole year", span(362, 2), span(0, lastDay), []int{0, 1, 2, 362, 363, 364}},
		{"one in another", span(10, 20), span(12, 14), []int{12, 13, 14}},
		{"one laps over another", span(10, 20), span(18, 30), []int{18, 19, 20}},
		{"one day within", span(1, 3), span(2, 2), []int{2}},
		{"one day at an end", span(1, 3), span(3, 9), []int{3}},
		{"one day around the end", span(364, 3), span(100, 364), []int{364}},
		{"no day: one behind the other", span(1, 3), span(4, 9), nil},
		{"no day: far away", span(1, 3), span(200, 210), nil},
		{"no day: what the other lacks", span(360, 4), span(5, 359), nil},
		{"days at both ends of the year", span(360, 4), span(3, 361), []int{3, 4, 360, 361}},
		{"days around the end of the year", span(360, 2), span(363, 4), []int{0, 1, 2, 363, 364}},
		{"the last and the first day", span(364, 0), span(300, 50), []int{0, 364}},
	} {
		for _, pair := range [][2]api.Span{{c.a, c.b}, {c.b, c.a}} {
			if got := calendar.Both(pair[0], pair[1]); !slices.Equal(got, c.want) {
				t.Errorf("%s: Both(%v, %v) = %v; want %v", c.name, pair[0], pair[1], got, c.want)
			}
		}
	}
}

// P4.2 against its definition, for each valid span and each day.
func TestEachSpanHasTheDaysFromItsFirstToItsLast(t *testing.T) {
	for from := range api.PerYear {
		for to := range api.PerYear {
			s := span(from, to)
			want := walked(s)
			for day, isIn := range want {
				if calendar.In(s, day) != isIn {
					t.Fatalf("In(%v, %d) is not %t", s, day, isIn)
				}
			}
			if got, days := calendar.Days(s), len(listed(want)); got != days || !calendar.Valid(s) {
				t.Fatalf("Days(%v) = %d; want %d", s, got, days)
			}
		}
	}
}

// P4.2 against its definition, for pairs of spans whose ends are near one another, near the end of the year, or anywhere.
func TestBothHasTheDaysThatEachHas(t *testing.T) {
	numbers := &samples.Sequence{}
	someDay := func() int {
		near := []int{0, 100, lastDay - 3}[numbers.Below(3)]
		return []int{near + numbers.Below(4), numbers.Below(api.PerYear)}[numbers.Below(2)]
	}
	for range 5000 {
		a, b := span(someDay(), someDay()), span(someDay(), someDay())
		if got, want := calendar.Both(a, b), listed(common(walked(a), walked(b))); !slices.Equal(got, want) {
			t.Fatalf("Both(%v, %v) = %v; want %v", a, b, got, want)
		}
	}
}

// Consequences: a span and the rest of the year share no day and have all days together, unless one of them has all.
func TestSpanAndTheRestOfTheYear(t *testing.T) {
	for from := range api.PerYear {
		for to := range api.PerYear {
			s := span(from, to)
			others := rest(s)
			days, otherDays := calendar.Days(s), calendar.Days(others)
			if days == api.PerYear || otherDays == api.PerYear {
				// What is left of a whole year is no span: the one that comes out is that year again.
				if s != others {
					t.Fatalf("%v and %v: one of them has all days", s, others)
				}
				continue
			}
			if got := calendar.Both(s, others); len(got) != 0 {
				t.Fatalf("%v and %v share %v", s, others, got)
			}
			if days+otherDays != api.PerYear {
				t.Fatalf("%v and %v have %d and %d days", s, others, days, otherDays)
			}
		}
	}
}

// R2: a result is new memory.
func TestBothResultIsNewMemory(t *testing.T) {
	first, second := calendar.Both(span(1, 3), span(2, 5)), calendar.Both(span(1, 3), span(2, 5))
	first[0] = 99
	if third := calendar.Both(span(1, 3), span(2, 5)); !slices.Equal(second, []int{2, 3}) || !slices.Equal(third, []int{2, 3}) {
		t.Errorf("a changed result has changed others to %v and %v", second, third)
	}
}
