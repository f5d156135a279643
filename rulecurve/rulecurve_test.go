package rulecurve_test

import (
	"math"
	"math/big"
	"slices"
	"testing"

	"hydrocascade/api"
	"hydrocascade/rulecurve"
	"hydrocascade/samples"
	"hydrocascade/storage"
)

const lastDay = api.PerYear - 1

// through is short, because the tables consist of it.
var through = samples.Through

// lake is a reservoir with a volume for each level, so that nothing is rounded: 30 up to level 100, 2 more for each level up to 150, then 10 more, 630 from level 200 on.
func lake() api.Reservoir {
	return api.Reservoir{Storage: through(100, 30, 150, 130, 200, 630), Dead: 110, Low: 120, Full: 170, Surcharge: 180, Crest: 190}
}

// shallow is a reservoir whose volume rises by 3 in 10 levels, so that volumes are rounded down.
func shallow() api.Reservoir {
	return api.Reservoir{Storage: through(0, 5, 10, 8, 20, 11), Dead: 0, Low: 0, Full: 20, Surcharge: 20, Crest: 20}
}

// steep is a reservoir with the greatest level and volume.
func steep() api.Reservoir {
	return api.Reservoir{Storage: through(0, 0, api.MaxLevel, api.MaxVolume), Full: api.MaxLevel, Surcharge: api.MaxLevel, Crest: api.MaxLevel}
}

// row returns so many points on days that follow one another, all at a level.
func row(count, firstDay, level int) []api.Point {
	points := make([]api.Point, count)
	for i := range points {
		points[i] = api.Point{X: firstDay + i, Y: level}
	}
	return points
}

// sawtooth returns so many points from a day on, some days apart, whose levels rise and fall and are uneven.
func sawtooth(count, firstDay, apart int) []api.Point {
	points := make([]api.Point, count)
	for i := range points {
		points[i] = api.Point{X: firstDay + i*apart, Y: 40 + 7*i%31*(1+i%2)}
	}
	return points
}

// with returns the points with another one at an index.
func with(points []api.Point, index, x, y int) []api.Point {
	points[index] = api.Point{X: x, Y: y}
	return points
}

// validCurves are curves at the ends of what the definition permits, and some within.
func validCurves() map[string][]api.Point {
	return map[string][]api.Point{
		"the chapter's example":               through(0, 100, 100, 200),
		"one point":                           through(50, 107),
		"one point on the first day":          through(0, 107),
		"one point on the last day":           through(lastDay, 107),
		"one point at level 0":                through(180, 0),
		"one point at the greatest level":     through(180, api.MaxLevel),
		"the first and the last day":          through(0, 3, lastDay, 90),
		"the last two days":                   through(lastDay-1, 3, lastDay, 90),
		"the first two days":                  through(0, 90, 1, 3),
		"from level 0 to the greatest":        through(10, 0, 200, api.MaxLevel),
		"from the greatest level to 0":        through(10, api.MaxLevel, 200, 0),
		"level 0 on all days":                 through(10, 0, 200, 0),
		"the greatest level on all days":      through(0, api.MaxLevel, lastDay, api.MaxLevel),
		"levels that stay":                    through(10, 7, 20, 7, 30, 7),
		"levels that fall":                    through(10, 70, 20, 7, 30, 0),
		"rising, level and falling lines":     through(20, 110, 90, 160, 200, 160, 300, 120),
		"quotients that have a rest":          through(100, 10, 200, 0, 300, 31),
		"as many points as permitted":         row(api.MaxPoints, 0, 9),
		"as many, up to the last day":         row(api.MaxPoints, lastDay-api.MaxPoints+1, 9),
		"as many, uneven, all over the year":  sawtooth(api.MaxPoints, 67, 3),
		"as many, uneven, from day 0 on":      sawtooth(api.MaxPoints, 0, 3),
		"as many, one at the greatest level":  with(row(api.MaxPoints, 60, 0), 57, 117, api.MaxLevel),
		"one point fewer than permitted":      sawtooth(api.MaxPoints-1, 1, 3),
		"X apart by 1, then by nearly a year": through(0, 5, 1, 6, lastDay, 7),
	}
}

type refused struct {
	name  string
	curve []api.Point
	code  api.Errno
}

// refusedOnce are curves with one error, or with several in one point.
func refusedOnce() []refused {
	const noDay, noLevel = api.PerYear, api.MaxLevel + 1
	return []refused{
		{"no points", nil, api.ErrForm},
		{"an empty slice", []api.Point{}, api.ErrForm},
		{"an empty slice with room", make([]api.Point, 0, 9), api.ErrForm},
		{"one point too many", row(api.MaxPoints+1, 0, 9), api.ErrLimit},
		{"a point for each day", row(api.PerYear, 0, 9), api.ErrLimit},
		{"X below 0", through(-1, 5), api.ErrRange},
		{"X behind the last day", through(noDay, 5), api.ErrRange},
		{"X a day of the next year", through(noDay+10, 5), api.ErrRange},
		{"X a day of the year before", through(-api.PerYear, 5), api.ErrRange},
		{"the least int as X", through(math.MinInt, 5), api.ErrRange},
		{"the greatest int as X", through(math.MaxInt, 5), api.ErrRange},
		{"Y below 0", through(5, -1), api.ErrRange},
		{"Y above the greatest level", through(5, noLevel), api.ErrRange},
		{"the least int as Y", through(5, math.MinInt), api.ErrRange},
		{"the greatest int as Y", through(5, math.MaxInt), api.ErrRange},
		{"X and Y out of range", through(-1, noLevel), api.ErrRange},
		{"the last X behind the last day", through(5, 5, 9, 9, noDay, 5), api.ErrRange},
		{"the last Y below 0", through(5, 5, 9, 9, lastDay, -1), api.ErrRange},
		{"the last Y too great", through(5, 5, 9, 9, lastDay, noLevel), api.ErrRange},
		{"the last X of many behind the last day", row(api.MaxPoints, api.PerYear-api.MaxPoints+1, 9), api.ErrRange},
		{"the last Y of many too great", with(row(api.MaxPoints, 0, 9), api.MaxPoints-1, 200, noLevel), api.ErrRange},
		{"a Y in the middle too great", with(row(9, 0, 9), 4, 4, noLevel), api.ErrRange},
		{"X that stays", through(5, 5, 5, 6), api.ErrOrder},
		{"the same point again", through(5, 5, 5, 5), api.ErrOrder},
		{"X that stays at 0", through(0, 5, 0, 6), api.ErrOrder},
		{"X that stays at the last day", through(lastDay, 5, lastDay, 6), api.ErrOrder},
		{"X that falls by 1", through(5, 5, 4, 6), api.ErrOrder},
		{"X that falls to the first day", through(5, 5, 0, 6), api.ErrOrder},
		{"X that ascends over the end of the year", through(350, 5, 10, 6), api.ErrOrder},
		{"X that falls, but is greater than the first", through(5, 5, 50, 6, 40, 7), api.ErrOrder},
		{"X that stays in the middle", through(5, 5, 9, 6, 9, 7, 20, 8), api.ErrOrder},
		{"the last X of many stays", with(row(api.MaxPoints, 0, 9), api.MaxPoints-1, api.MaxPoints-2, 9), api.ErrOrder},
	}
}

// refusedTwice are curves with several errors: the first point that has one decides, and its range before its order.
func refusedTwice() []refused {
	const noDay, noLevel = api.PerYear, api.MaxLevel + 1
	return []refused{
		{"too many points, the first out of range", with(row(api.MaxPoints+1, 0, 9), 0, -1, 9), api.ErrLimit},
		{"too many points, the last out of range", with(row(api.MaxPoints+1, 0, 9), api.MaxPoints, noDay, 9), api.ErrLimit},
		{"too many points, out of order", make([]api.Point, api.MaxPoints+1), api.ErrLimit},
		{"X falls below 0", through(5, 5, -1, 5), api.ErrRange},
		{"X stays, Y below 0", through(5, 5, 5, -1), api.ErrRange},
		{"X falls, Y too great", through(5, 5, 4, noLevel), api.ErrRange},
		{"X stays behind the last day", through(noDay, 5, noDay, 6), api.ErrRange},
		{"X out of range, then X that falls", through(-1, 5, 9, 5, 8, 5), api.ErrRange},
		{"X that falls, then X out of range", through(9, 5, 8, 5, noDay, 5), api.ErrOrder},
		{"X that falls, then X below 0", through(3, 0, 2, 0, -1, 0), api.ErrOrder},
		{"X that stays, then Y out of range", through(9, 5, 9, 5, 20, noLevel), api.ErrOrder},
		{"Y out of range, then X that stays", through(9, noLevel, 9, 5), api.ErrRange},
		{"Y below 0 in the second, then X that falls", through(9, 5, 20, -1, 10, 5), api.ErrRange},
		{"X that falls in the last but one, Y too great in the last", through(9, 5, 20, 5, 20, 5, 30, noLevel), api.ErrOrder},
		{"X that falls twice, the second time below 0", through(9, 5, 8, 5, -1, -1), api.ErrOrder},
	}
}

func refusedCurves() []refused { return slices.Concat(refusedOnce(), refusedTwice()) }

// notDays are numbers that are no days of the year.
var notDays = []int{math.MinInt, -api.PerYear, -1, api.PerYear, api.PerYear + 1, 2 * api.PerYear, math.MaxInt}

// notVolumes are numbers that are no volumes.
var notVolumes = []int{math.MinInt, -api.MaxVolume, -1, api.MaxVolume + 1, math.MaxInt}

func expectAt(t *testing.T, name string, c []api.Point, day, want int, code api.Errno) {
	t.Helper()
	if got, gotCode := rulecurve.At(c, day); got != want || gotCode != code {
		t.Errorf("%s: At(%d) = %d, %d; want %d, %d", name, day, got, gotCode, want, code)
	}
}

func expectTarget(t *testing.T, name string, r api.Reservoir, c []api.Point, day, want int, code api.Errno) {
	t.Helper()
	if got, gotCode := rulecurve.Target(r, c, day); got != want || gotCode != code {
		t.Errorf("%s: Target(%d) = %d, %d; want %d, %d", name, day, got, gotCode, want, code)
	}
}

func expectSurplus(t *testing.T, name string, r api.Reservoir, c []api.Point, day, volume, want int, code api.Errno) {
	t.Helper()
	if got, gotCode := rulecurve.Surplus(r, c, day, volume); got != want || gotCode != code {
		t.Errorf("%s: Surplus(%d, %d) = %d, %d; want %d, %d", name, day, volume, got, gotCode, want, code)
	}
}

func expectHighest(t *testing.T, name string, c []api.Point, wantDay, wantLevel int, code api.Errno) {
	t.Helper()
	if day, level, gotCode := rulecurve.Highest(c); day != wantDay || level != wantLevel || gotCode != code {
		t.Errorf("%s: Highest = %d, %d, %d; want %d, %d, %d", name, day, level, gotCode, wantDay, wantLevel, code)
	}
}

// P5.1
func TestCheckPermitsValidCurves(t *testing.T) {
	for name, c := range validCurves() {
		if code := rulecurve.Check(c); code != api.OK {
			t.Errorf("%s: error %d", name, code)
		}
	}
}

// P5.1, R5
func TestCheckRefusesInvalidCurvesInOrder(t *testing.T) {
	for _, c := range refusedCurves() {
		if code := rulecurve.Check(c.curve); code != c.code {
			t.Errorf("%s: error %d; want %d", c.name, code, c.code)
		}
	}
}

// P5.2, P5.3, R3, R5: an invalid curve decides, whatever the day and the volume are, and the other results are zero.
func TestInvalidCurvesAreRefusedInOrder(t *testing.T) {
	for _, c := range refusedCurves() {
		expectHighest(t, c.name, c.curve, 0, 0, c.code)
		for _, day := range append(notDays, 0, 5, lastDay) {
			expectAt(t, c.name, c.curve, day, 0, c.code)
			expectTarget(t, c.name, lake(), c.curve, day, 0, c.code)
			for _, volume := range append(notVolumes, 0, 500, api.MaxVolume) {
				expectSurplus(t, c.name, lake(), c.curve, day, volume, 0, c.code)
			}
		}
	}
}

// P5.2, P5.3, R3: numbers that are no day, or no volume, with valid curves.
func TestNumbersOutOfRangeAreRefused(t *testing.T) {
	for name, c := range validCurves() {
		for _, day := range notDays {
			expectAt(t, name, c, day, 0, api.ErrRange)
			expectTarget(t, name, lake(), c, day, 0, api.ErrRange)
			for _, volume := range append(notVolumes, 0, 500, api.MaxVolume) {
				expectSurplus(t, name, lake(), c, day, volume, 0, api.ErrRange)
			}
		}
		for _, volume := range notVolumes {
			for _, day := range []int{0, 5, lastDay} {
				expectSurplus(t, name, lake(), c, day, volume, 0, api.ErrRange)
			}
		}
	}
}

// refusedReservoirs are reservoirs with each of the errors of storage.Check.
func refusedReservoirs() map[string]api.Reservoir {
	onePoint, tooMany, outOfRange, tooHigh, flat, falling, levels := lake(), lake(), lake(), lake(), lake(), lake(), lake()
	onePoint.Storage = through(150, 9)
	tooMany.Storage = sawtooth(api.MaxPoints+1, 0, 3)
	outOfRange.Storage = through(100, 30, 200, api.MaxVolume+1)
	tooHigh.Storage = through(100, 30, api.MaxLevel+1, 630)
	flat.Storage = through(100, 30, 200, 30)
	falling.Storage = through(100, 30, 200, 29)
	levels.Low = levels.Dead - 1
	return map[string]api.Reservoir{
		"a reservoir of zeros":   {},
		"one point":              onePoint,
		"too many points":        tooMany,
		"Y out of range":         outOfRange,
		"X above the greatest":   tooHigh,
		"Y that stays":           flat,
		"Y that falls":           falling,
		"levels not in order":    levels,
		"levels above the curve": {Storage: through(100, 30, 200, 630), Dead: 201, Low: 201, Full: 201, Surcharge: 201, Crest: 201},
	}
}

// P5.3, R3, R5: an invalid reservoir decides before the curve, the day and the volume.
func TestInvalidReservoirsAreRefusedFirst(t *testing.T) {
	curves := append(refusedCurves(), refused{"a valid curve", through(0, 100, 100, 200), api.OK})
	for name, r := range refusedReservoirs() {
		want := storage.Check(r)
		if want == api.OK {
			t.Fatalf("%s: it is valid", name)
		}
		for _, c := range curves {
			for _, day := range []int{-1, 0, 50, lastDay, api.PerYear} {
				expectTarget(t, name+", "+c.name, r, c.curve, day, 0, want)
				for _, volume := range []int{-1, 0, 500, api.MaxVolume, api.MaxVolume + 1} {
					expectSurplus(t, name+", "+c.name, r, c.curve, day, volume, 0, want)
				}
			}
		}
	}
}

// pair is a day, or a volume, and what is wanted of it.
type pair struct{ of, want int }

// P5.2: points, the days on both sides of them, and the days around the end of the year.
func TestAtOfNamedCases(t *testing.T) {
	for name, c := range map[string]struct {
		curve []api.Point
		pairs []pair
	}{
		"the chapter's example":                      {through(0, 100, 100, 200), []pair{{0, 100}, {1, 101}, {50, 150}, {99, 199}, {100, 200}, {101, 199}, {102, 199}, {103, 198}, {232, 150}, {363, 100}, {364, 100}}},
		"one point":                                  {through(50, 107), []pair{{0, 107}, {49, 107}, {50, 107}, {51, 107}, {364, 107}}},
		"one point on the first day":                 {through(0, 107), []pair{{0, 107}, {1, 107}, {364, 107}}},
		"one point on the last day":                  {through(364, 107), []pair{{0, 107}, {363, 107}, {364, 107}}},
		"a line that rises over the end of the year": {through(100, 265, 200, 0), []pair{{199, 2}, {200, 0}, {201, 1}, {232, 32}, {364, 164}, {0, 165}, {1, 166}, {99, 264}, {100, 265}, {101, 262}}},
		"a line that falls over the end of the year": {through(100, 0, 200, 265), []pair{{199, 262}, {200, 265}, {201, 264}, {364, 101}, {0, 100}, {1, 99}, {99, 1}, {100, 0}, {101, 2}}},
		"level over the end of the year":             {through(100, 7, 150, 57, 200, 7), []pair{{149, 56}, {150, 57}, {151, 56}, {200, 7}, {201, 7}, {364, 7}, {0, 7}, {99, 7}, {100, 7}, {101, 8}}},
		"level between rising and falling":           {through(10, 0, 20, 3, 30, 3, 40, 0), []pair{{9, 0}, {10, 0}, {11, 0}, {13, 0}, {14, 1}, {16, 1}, {17, 2}, {19, 2}, {20, 3}, {21, 3}, {29, 3}, {30, 3}, {31, 2}, {33, 2}, {34, 1}, {36, 1}, {37, 0}, {39, 0}, {40, 0}, {41, 0}}},
		"quotients that have a rest, over the end":   {through(100, 10, 200, 0, 300, 31), []pair{{300, 31}, {301, 30}, {307, 30}, {308, 29}, {364, 22}, {0, 22}, {99, 10}, {105, 9}, {109, 9}, {110, 9}, {111, 8}, {200, 0}, {203, 0}, {204, 1}}},
		"the first and the last day":                 {through(0, 10, 364, 738), []pair{{0, 10}, {1, 12}, {182, 374}, {363, 736}, {364, 738}}},
		"the last day, not the first one":            {through(1, 10, 364, 13), []pair{{0, 11}, {1, 10}, {2, 10}, {363, 12}, {364, 13}}},
		"the first day, not the last one":            {through(0, 10, 363, 13), []pair{{0, 10}, {1, 10}, {362, 12}, {363, 13}, {364, 11}}},
		"points on days that follow one another":     {through(7, 1, 8, 100, 9, 2), []pair{{6, 1}, {7, 1}, {8, 100}, {9, 2}, {10, 1}}},
		"level 0 and the greatest one":               {through(0, 0, 364, api.MaxLevel), []pair{{0, 0}, {1, 46091}, {363, api.MaxLevel - 46092}, {364, api.MaxLevel}}},
		"the greatest level and 0":                   {through(0, api.MaxLevel, 364, 0), []pair{{0, api.MaxLevel}, {1, api.MaxLevel - 46092}, {363, 46091}, {364, 0}}},
		"the greatest level on all days":             {through(3, api.MaxLevel, 9, api.MaxLevel), []pair{{0, api.MaxLevel}, {3, api.MaxLevel}, {5, api.MaxLevel}, {364, api.MaxLevel}}},
		"level 0 on all days":                        {through(3, 0, 9, 0), []pair{{0, 0}, {3, 0}, {5, 0}, {364, 0}}},
		"a line down by 1":                           {through(0, 1, 100, 0), []pair{{0, 1}, {1, 0}, {99, 0}, {100, 0}, {101, 0}, {364, 0}}},
		"a line up by 1":                             {through(0, 0, 100, 1), []pair{{0, 0}, {1, 0}, {99, 0}, {100, 1}, {101, 0}, {364, 0}}},
	} {
		for _, p := range c.pairs {
			expectAt(t, name, c.curve, p.of, p.want, api.OK)
		}
	}
}

// exactLevel is the level of a day by the promise: it walks back and forth through the days to the points on both sides, and divides numbers of any length.
func exactLevel(c []api.Point, day int) int {
	levels := map[int]int{}
	for _, point := range c {
		levels[point.X] = point.Y
	}
	isPoint := func(d int) bool { _, is := levels[(d+api.PerYear)%api.PerYear]; return is }
	from, to := day, day+1
	for !isPoint(from) {
		from--
	}
	for !isPoint(to) {
		to++
	}
	start, end := levels[(from+api.PerYear)%api.PerYear], levels[to%api.PerYear]
	rise := big.NewInt(int64((end - start) * (day - from)))
	// Div rounds down for a divisor that is greater than 0.
	return start + int(rise.Div(rise, big.NewInt(int64(to-from))).Int64())
}

// someCurve returns a valid curve of random days and levels, some of them the same.
func someCurve(numbers *samples.Sequence) []api.Point {
	count := 1 + numbers.Below(1+numbers.Below(12))
	if numbers.Below(20) == 0 {
		count = api.MaxPoints
	}
	scale := 1 << (1 + numbers.Below(25))
	isPoint := map[int]bool{}
	for len(isPoint) < count {
		isPoint[numbers.Below(api.PerYear)] = true
	}
	var points []api.Point
	for day := range api.PerYear {
		if isPoint[day] {
			points = append(points, api.Point{X: day, Y: min(numbers.Below(scale), api.MaxLevel)})
		}
	}
	return points
}

// expectAllDays tests At on each day of the year, and Highest, against a walk through the days.
func expectAllDays(t *testing.T, name string, c []api.Point) {
	t.Helper()
	wantDay, wantLevel := 0, -1
	for day := range api.PerYear {
		level := exactLevel(c, day)
		expectAt(t, name, c, day, level, api.OK)
		if level > wantLevel {
			wantDay, wantLevel = day, level
		}
	}
	expectHighest(t, name, c, wantDay, wantLevel, api.OK)
}

// P5.2 and P5.3 on each day of the year.
func TestEachDayOfEachCurveIsExact(t *testing.T) {
	for name, c := range validCurves() {
		expectAllDays(t, name, c)
	}
	numbers := &samples.Sequence{}
	for range 300 {
		c := someCurve(numbers)
		expectAllDays(t, "a random curve", c)
		if t.Failed() {
			t.Fatalf("this was of %v", c)
		}
	}
}

// Consequences: each level lies between the least and the greatest Y, and one point has the same level on all days.
func TestLevelsKeepTheConsequences(t *testing.T) {
	numbers := &samples.Sequence{}
	for i := range 400 {
		c := someCurve(numbers)
		if i%4 == 0 {
			c = c[:1]
		}
		least, greatest := c[0].Y, c[0].Y
		for _, point := range c {
			least, greatest = min(least, point.Y), max(greatest, point.Y)
		}
		for day := range api.PerYear {
			if level, code := rulecurve.At(c, day); level < least || level > greatest || code != api.OK {
				t.Fatalf("%v: At(%d) = %d, %d", c, day, level, code)
			}
		}
		if _, level, _ := rulecurve.Highest(c); level != greatest {
			t.Fatalf("%v: Highest has level %d", c, level)
		}
	}
}

// P5.3
func TestTargetOfNamedCases(t *testing.T) {
	line := through(0, 100, 100, 200)
	for name, c := range map[string]struct {
		reservoir api.Reservoir
		curve     []api.Point
		pairs     []pair
	}{
		"levels of two lines of the reservoir":   {lake(), line, []pair{{0, 30}, {1, 32}, {49, 128}, {50, 130}, {51, 140}, {99, 620}, {100, 630}, {101, 620}, {232, 130}, {364, 30}}},
		"a level below the reservoir's":          {lake(), through(0, 0, 99, 99), []pair{{0, 30}, {50, 30}, {99, 30}, {100, 30}}},
		"a level above the reservoir's":          {lake(), through(7, 201, 9, api.MaxLevel), []pair{{0, 630}, {7, 630}, {8, 630}, {9, 630}, {364, 630}}},
		"one point":                              {lake(), through(50, 107), []pair{{0, 44}, {50, 44}, {364, 44}}},
		"the level is rounded before the volume": {shallow(), through(0, 0, 100, 10), []pair{{0, 5}, {33, 5}, {35, 5}, {39, 5}, {40, 6}, {67, 6}, {69, 6}, {70, 7}, {99, 7}, {100, 8}}},
		"levels of another zone do not matter":   {lake(), through(0, 105, 5, 195), []pair{{0, 40}, {5, 580}}},
		"the greatest level and volume":          {steep(), through(0, 0, 364, api.MaxLevel), []pair{{0, 0}, {1, 46091 << 14}, {364, api.MaxVolume}}},
	} {
		for _, p := range c.pairs {
			expectTarget(t, name, c.reservoir, c.curve, p.of, p.want, api.OK)
		}
	}
}

// P5.3: volumes on both sides of the Target, and at the ends of what they may be.
func TestSurplusOfNamedCases(t *testing.T) {
	line := through(0, 100, 100, 200)
	for name, c := range map[string]struct {
		reservoir api.Reservoir
		curve     []api.Point
		day       int
		pairs     []pair
	}{
		"a day between points":         {lake(), line, 50, []pair{{0, -130}, {129, -1}, {130, 0}, {131, 1}, {630, 500}, {api.MaxVolume, api.MaxVolume - 130}}},
		"a point's own day":            {lake(), line, 100, []pair{{0, -630}, {629, -1}, {630, 0}, {631, 1}, {api.MaxVolume, api.MaxVolume - 630}}},
		"a day behind the last point":  {lake(), line, 232, []pair{{0, -130}, {129, -1}, {130, 0}, {131, 1}}},
		"a day before the first point": {lake(), through(100, 110, 200, 190), 99, []pair{{0, -50}, {49, -1}, {50, 0}, {51, 1}}},
		"less than the reservoir has":  {lake(), through(0, 0), 0, []pair{{0, -30}, {29, -1}, {30, 0}, {31, 1}}},
		"the greatest Target":          {steep(), through(0, api.MaxLevel), 364, []pair{{0, -api.MaxVolume}, {api.MaxVolume - 1, -1}, {api.MaxVolume, 0}}},
		"the Target 0":                 {steep(), through(0, 0), 364, []pair{{0, 0}, {1, 1}, {api.MaxVolume, api.MaxVolume}}},
		"the last day":                 {shallow(), through(364, 20), 364, []pair{{0, -11}, {10, -1}, {11, 0}, {12, 1}}},
		"the first day":                {shallow(), through(364, 20), 0, []pair{{0, -11}, {10, -1}, {11, 0}, {12, 1}}},
	} {
		for _, p := range c.pairs {
			expectSurplus(t, name, c.reservoir, c.curve, c.day, p.of, p.want, api.OK)
		}
	}
}

// P5.3: Target is the volume of the level, and Surplus the rest, on each day.
func TestTargetAndSurplusOfEachDay(t *testing.T) {
	numbers := &samples.Sequence{}
	for range 100 {
		c := someCurve(numbers)
		for _, r := range []api.Reservoir{lake(), shallow(), steep()} {
			for day := range api.PerYear {
				target, _ := storage.Volume(r, exactLevel(c, day))
				expectTarget(t, "a random curve", r, c, day, target, api.OK)
				volume := numbers.Below(1 << (1 + numbers.Below(38)))
				for _, v := range []int{0, target, volume, api.MaxVolume} {
					expectSurplus(t, "a random curve", r, c, day, v, v-target, api.OK)
				}
			}
			if t.Failed() {
				t.Fatalf("this was of %v and %v", r, c)
			}
		}
	}
}

// P5.3: of several days with the highest level, the first one in the year.
func TestHighestOfNamedCases(t *testing.T) {
	for _, c := range []struct {
		name       string
		curve      []api.Point
		day, level int
	}{
		{"the chapter's example", through(0, 100, 100, 200), 100, 200},
		{"one point", through(50, 7), 0, 7},
		{"one point on the last day", through(364, 7), 0, 7},
		{"one point at level 0", through(50, 0), 0, 0},
		{"level 0 on all days", through(50, 0, 100, 0), 0, 0},
		{"the greatest level on all days", through(50, api.MaxLevel, 100, api.MaxLevel), 0, api.MaxLevel},
		{"the first point, on day 0", through(0, 9, 50, 8), 0, 9},
		{"the first point, on a later day", through(1, 9, 50, 8), 1, 9},
		{"the last point, on the last day", through(0, 8, 364, 9), 364, 9},
		{"the last point, on an earlier day", through(0, 8, 300, 9), 300, 9},
		{"a point in between", through(10, 5, 20, 9, 30, 8), 20, 9},
		{"two points, level between them", through(10, 5, 20, 9, 30, 9), 20, 9},
		{"two points, lower between them", through(10, 9, 20, 5, 30, 9, 40, 1), 10, 9},
		{"level over the end of the year", through(10, 9, 20, 5, 300, 9), 0, 9},
		{"level over the end of the year, higher before", through(10, 9, 20, 10, 300, 9), 20, 10},
		{"level from the last day on to a later one", through(7, 9, 20, 5, 364, 9), 0, 9},
		{"level from the last day to the first", through(0, 9, 20, 5, 364, 9), 0, 9},
		{"nearly as high all around, but rounded down", through(10, 9, 364, 8), 10, 9},
		{"a level that only the point itself has, by rounding", through(100, 1, 200, 0), 100, 1},
		{"the greatest level", through(3, 0, 180, api.MaxLevel, 300, api.MaxLevel-1), 180, api.MaxLevel},
		{"as many points as permitted", with(row(api.MaxPoints, 200, 5), 60, 260, 6), 260, 6},
		{"as many points as permitted, all level", row(api.MaxPoints, 200, 5), 0, 5},
	} {
		expectHighest(t, c.name, c.curve, c.day, c.level, api.OK)
	}
}

// callAll calls all functions on each day of the year, and with numbers that are refused.
func callAll(r api.Reservoir, c []api.Point) {
	rulecurve.Check(c)
	rulecurve.Highest(c)
	for day := -1; day <= api.PerYear; day++ {
		rulecurve.At(c, day)
		rulecurve.Target(r, c, day)
		rulecurve.Surplus(r, c, day, 500)
		rulecurve.Surplus(r, c, day, -1)
	}
}

// R2: what is passed in stays as it is, also around the points where the slice has room.
func TestArgumentsAreNotChanged(t *testing.T) {
	curves := validCurves()
	for _, c := range refusedCurves() {
		curves[c.name] = c.curve
	}
	other := api.Point{X: 1000, Y: -1000}
	for name, points := range curves {
		c, whole := samples.Window(points, other)
		r := lake()
		var volumes []api.Point
		r.Storage, volumes = samples.Window(r.Storage, other)
		wholeBefore, volumesBefore := slices.Clone(whole), slices.Clone(volumes)
		callAll(r, c)
		if !slices.Equal(whole, wholeBefore) {
			t.Errorf("%s: %v became %v", name, wholeBefore, whole)
		}
		if !slices.Equal(volumes, volumesBefore) {
			t.Errorf("%s: the points of the reservoir %v became %v", name, volumesBefore, volumes)
		}
	}
}

// R2, R4: nothing is kept of a curve that is changed afterwards.
func TestArgumentsAreNotKept(t *testing.T) {
	c, r := through(0, 100, 100, 200), lake()
	callAll(r, c)
	c[1] = api.Point{X: 200, Y: 150}
	r.Storage[0].Y = 28
	expectAt(t, "a changed curve", c, 100, 125, api.OK)
	expectHighest(t, "a changed curve", c, 200, 150, api.OK)
	expectTarget(t, "a changed reservoir", r, c, 0, 28, api.OK)
	expectSurplus(t, "a changed reservoir", r, c, 100, 80, 1, api.OK)
}
