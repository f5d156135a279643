package storage_test

import (
	"math"
	"math/big"
	"slices"
	"testing"

	"hydrocascade/api"
	"hydrocascade/curve"
	"hydrocascade/samples"
	"hydrocascade/storage"
)

// through is short, because the tables consist of it.
var through = samples.Through

// reservoir returns the reservoir with these points and the levels Dead, Low, Full, Surcharge and Crest.
func reservoir(points []api.Point, levels [5]int) api.Reservoir {
	return api.Reservoir{Storage: points, Dead: levels[0], Low: levels[1], Full: levels[2], Surcharge: levels[3], Crest: levels[4]}
}

// lake is a reservoir with a volume for each level, so that nothing is rounded.
func lake() api.Reservoir {
	return reservoir(through(100, 30, 150, 130, 200, 630), [5]int{110, 120, 170, 180, 190})
}

// shallow is a reservoir whose volume rises less than its level, so that several levels have the same one.
func shallow() api.Reservoir {
	return reservoir(through(10, 5, 20, 8, 30, 9), [5]int{10, 12, 20, 25, 30})
}

// steep is a reservoir with the greatest level and volume, and the greatest product of a line.
func steep() api.Reservoir {
	return reservoir(through(0, 0, api.MaxLevel, api.MaxVolume), [5]int{0, 1, 2, api.MaxLevel - 1, api.MaxLevel})
}

// allAt returns a reservoir with the points whose levels are all the same.
func allAt(points []api.Point, level int) api.Reservoir {
	return reservoir(points, [5]int{level, level, level, level, level})
}

// ladder returns so many points, of which each is above the one before, and the last one has this X.
func ladder(count, lastX int) []api.Point {
	points := make([]api.Point, count)
	for i := range points {
		points[i] = api.Point{X: lastX - count + 1 + i, Y: i}
	}
	return points
}

// withPoint returns the points with another one at an index.
func withPoint(points []api.Point, index int, point api.Point) []api.Point {
	points[index] = point
	return points
}

// validCases are reservoirs at the ends of what the definition permits.
func validCases() map[string]api.Reservoir {
	points := through(100, 0, 200, 1000)
	return map[string]api.Reservoir{
		"levels apart":                        lake(),
		"a storage curve of two points":       reservoir(points, [5]int{110, 120, 180, 190, 195}),
		"all levels apart by 1":               reservoir(points, [5]int{101, 102, 103, 104, 105}),
		"Dead at the first point":             reservoir(points, [5]int{100, 101, 102, 103, 104}),
		"Crest at the last point":             reservoir(points, [5]int{196, 197, 198, 199, 200}),
		"Dead and Low at one another":         reservoir(points, [5]int{110, 110, 180, 190, 195}),
		"Low and Full at one another":         reservoir(points, [5]int{110, 120, 120, 190, 195}),
		"Full and Surcharge at one another":   reservoir(points, [5]int{110, 120, 190, 190, 195}),
		"Surcharge and Crest at one another":  reservoir(points, [5]int{110, 120, 180, 195, 195}),
		"all levels at the first point":       allAt(points, 100),
		"all levels at one another":           allAt(points, 150),
		"all levels at the last point":        allAt(points, 200),
		"levels at both ends":                 reservoir(points, [5]int{100, 100, 100, 200, 200}),
		"an X of the greatest level":          steep(),
		"all levels at the greatest":          allAt(through(0, 0, api.MaxLevel, 9), api.MaxLevel),
		"all levels 0":                        allAt(through(0, 0, 1, 1), 0),
		"the first volume is not 0":           allAt(through(5, 7, 6, 8), 5),
		"as many points as permitted":         allAt(ladder(api.MaxPoints, api.MaxLevel), api.MaxLevel-9),
		"the least rise at the greatest Y":    allAt(through(5, api.MaxVolume-1, 6, api.MaxVolume), 6),
		"a volume that rises less than by 1":  shallow(),
		"the greatest X and Y, one line more": allAt(through(0, 0, 1, 1<<20, api.MaxLevel, api.MaxVolume), 1),
	}
}

type refused struct {
	reservoir api.Reservoir
	code      api.Errno
}

// refusedCurves are reservoirs whose levels would do, but not the curve; the first of its errors decides.
func refusedCurves() map[string]refused {
	const tooHigh = api.MaxLevel + 1
	middle := api.MaxPoints / 2
	return map[string]refused{
		"no points":                                     {allAt(nil, 0), api.ErrForm},
		"an empty slice of points":                      {allAt([]api.Point{}, 0), api.ErrForm},
		"too many points":                               {allAt(ladder(api.MaxPoints+1, 200), 150), api.ErrLimit},
		"too many points, X too great":                  {allAt(ladder(api.MaxPoints+1, tooHigh), 150), api.ErrLimit},
		"X below 0":                                     {allAt(through(-1, 0, 200, 1000), 150), api.ErrRange},
		"X above what a curve may have":                 {allAt(through(100, 0, api.MaxFlow+1, 1000), 150), api.ErrRange},
		"Y below 0":                                     {allAt(through(100, -1, 200, 1000), 150), api.ErrRange},
		"Y above the greatest":                          {allAt(through(100, 0, 200, api.MaxVolume+1), 150), api.ErrRange},
		"the least int as X":                            {allAt(through(math.MinInt, 0, 200, 1000), 150), api.ErrRange},
		"the greatest int as Y":                         {allAt(through(100, 0, 200, math.MaxInt), 150), api.ErrRange},
		"X that stays":                                  {allAt(through(100, 0, 100, 5), 100), api.ErrOrder},
		"X that descends":                               {allAt(through(100, 0, 99, 5), 100), api.ErrOrder},
		"Y that descends":                               {allAt(through(100, 5, 200, 4), 150), api.ErrOrder},
		"a product that is too great":                   {allAt(through(0, 0, 1<<24+1, 1<<38), 150), api.ErrRange},
		"X too great, then out of order":                {allAt(through(100, 0, tooHigh, 5, tooHigh, 6), 150), api.ErrOrder},
		"X too great, then Y below 0":                   {allAt(through(tooHigh, 0, tooHigh+1, -1), tooHigh), api.ErrRange},
		"Y that stays, then a product that is great":    {allAt(through(0, 0, 1, 0, 1<<26, 1<<38), 150), api.ErrRange},
		"one point":                                     {allAt(through(100, 0), 100), api.ErrForm},
		"one point of zeros":                            {allAt(through(0, 0), 0), api.ErrForm},
		"one point, X too great":                        {allAt(through(tooHigh, 0), tooHigh), api.ErrForm},
		"one point out of range":                        {allAt(through(-1, 0), 0), api.ErrRange},
		"one point, Y too great":                        {allAt(through(100, api.MaxVolume+1), 100), api.ErrRange},
		"the last X too great":                          {allAt(through(100, 0, tooHigh, 1000), 150), api.ErrRange},
		"all X too great":                               {allAt(through(tooHigh, 0, tooHigh+1, 1000), tooHigh), api.ErrRange},
		"the greatest X of a curve":                     {allAt(through(100, 0, api.MaxFlow, 1000), 150), api.ErrRange},
		"the last of many X too great":                  {allAt(ladder(api.MaxPoints, tooHigh), tooHigh-9), api.ErrRange},
		"X too great, Y that stays":                     {allAt(through(100, 5, tooHigh, 5), 150), api.ErrRange},
		"Y that stays, X too great behind":              {allAt(through(100, 5, 101, 5, tooHigh, 6), 150), api.ErrRange},
		"Y that stays":                                  {allAt(through(100, 5, 200, 5), 150), api.ErrOrder},
		"Y that stays at 0":                             {allAt(through(100, 0, 200, 0), 150), api.ErrOrder},
		"Y that stays at the greatest":                  {allAt(through(100, api.MaxVolume, 200, api.MaxVolume), 150), api.ErrOrder},
		"Y that stays first, then rises":                {allAt(through(100, 5, 150, 5, 200, 6), 150), api.ErrOrder},
		"Y that rises first, then stays":                {allAt(through(100, 5, 150, 6, 200, 6), 150), api.ErrOrder},
		"Y that stays in the middle of many":            {allAt(withPoint(ladder(api.MaxPoints, 200), middle, api.Point{X: 101 + middle, Y: middle - 1}), 150), api.ErrOrder},
		"Y that stays at the end of many":               {allAt(withPoint(ladder(api.MaxPoints, 200), api.MaxPoints-1, api.Point{X: 200, Y: api.MaxPoints - 2}), 150), api.ErrOrder},
		"Y that stays up to the greatest permitted X":   {allAt(through(0, 5, api.MaxLevel, 5), 150), api.ErrOrder},
		"X too great where the product is the greatest": {allAt(through(0, 0, 1<<26, 1<<36), 150), api.ErrRange},
	}
}

// refusedLevels are reservoirs whose levels are out of order, most of them by 1 and in one place.
func refusedLevels() map[string]refused {
	points := through(100, 0, 200, 1000)
	return map[string]refused{
		"Dead below the first point":          {reservoir(points, [5]int{99, 120, 180, 190, 195}), api.ErrOrder},
		"Dead above Low":                      {reservoir(points, [5]int{121, 120, 180, 190, 195}), api.ErrOrder},
		"Low above Full":                      {reservoir(points, [5]int{110, 181, 180, 190, 195}), api.ErrOrder},
		"Full above Surcharge":                {reservoir(points, [5]int{110, 120, 191, 190, 195}), api.ErrOrder},
		"Surcharge above Crest":               {reservoir(points, [5]int{110, 120, 180, 196, 195}), api.ErrOrder},
		"Crest above the last point":          {reservoir(points, [5]int{110, 120, 180, 190, 201}), api.ErrOrder},
		"all levels below the first point":    {allAt(points, 99), api.ErrOrder},
		"all levels above the last point":     {allAt(points, 201), api.ErrOrder},
		"no levels":                           {allAt(points, 0), api.ErrOrder},
		"levels turned around":                {reservoir(points, [5]int{195, 190, 180, 120, 110}), api.ErrOrder},
		"the least int as Dead":               {reservoir(points, [5]int{math.MinInt, 120, 180, 190, 195}), api.ErrOrder},
		"the greatest int as Crest":           {reservoir(points, [5]int{110, 120, 180, 190, math.MaxInt}), api.ErrOrder},
		"the least int as Full":               {reservoir(points, [5]int{110, 120, math.MinInt, 190, 195}), api.ErrOrder},
		"Crest above the greatest level":      {reservoir(steep().Storage, [5]int{0, 1, 2, 3, api.MaxLevel + 1}), api.ErrOrder},
		"Dead below 0":                        {reservoir(steep().Storage, [5]int{-1, 1, 2, 3, 4}), api.ErrOrder},
		"levels out of order, no points":      {reservoir(nil, [5]int{5, 4, 3, 2, 1}), api.ErrForm},
		"levels out of order, one point":      {reservoir(through(100, 0), [5]int{5, 4, 3, 2, 1}), api.ErrForm},
		"levels out of order, X too great":    {reservoir(through(100, 0, api.MaxLevel+1, 9), [5]int{5, 4, 3, 2, 1}), api.ErrRange},
		"levels out of order, Y that stays":   {reservoir(through(100, 9, 200, 9), [5]int{5, 4, 3, 2, 1}), api.ErrOrder},
		"levels out of order, Y out of range": {reservoir(through(100, -9, 200, 9), [5]int{5, 4, 3, 2, 1}), api.ErrRange},
	}
}

// P3.1
func TestCheckPermitsValidReservoirs(t *testing.T) {
	for name, r := range validCases() {
		if code := storage.Check(r); code != api.OK {
			t.Errorf("%s: error %d", name, code)
		}
	}
}

// expectAll tests that each function that is asked about a level and a volume returns 0 and this error.
func expectAll(t *testing.T, name string, r api.Reservoir, level, volume int, code api.Errno) {
	t.Helper()
	expectOfLevel(t, name, r, level, code)
	expectOfVolume(t, name, r, volume, code)
	expectRoom(t, name, r, volume, level, 0, code)
}

func expectOfLevel(t *testing.T, name string, r api.Reservoir, level int, code api.Errno) {
	t.Helper()
	expect(t, name+": Volume", storage.Volume, r, pair{level, 0}, code)
	expect(t, name+": Zone", storage.Zone, r, pair{level, 0}, code)
}

func expectOfVolume(t *testing.T, name string, r api.Reservoir, volume int, code api.Errno) {
	t.Helper()
	expect(t, name+": Level", storage.Level, r, pair{volume, 0}, code)
	expect(t, name+": Usable", storage.Usable, r, pair{volume, 0}, code)
}

func expectRoom(t *testing.T, name string, r api.Reservoir, volume, level, want int, code api.Errno) {
	t.Helper()
	if n, got := storage.Room(r, volume, level); n != want || got != code {
		t.Errorf("%s: Room(%d, %d) = %d, %d; want %d, %d", name, volume, level, n, got, want, code)
	}
}

// question is a function of a reservoir and a level, or a volume.
type question func(api.Reservoir, int) (int, api.Errno)

// pair is what a question is asked about, and the result that is wanted.
type pair struct{ of, want int }

func expect(t *testing.T, name string, function question, r api.Reservoir, p pair, code api.Errno) {
	t.Helper()
	if got, gotCode := function(r, p.of); got != p.want || gotCode != code {
		t.Errorf("%s: of %d it is %d, %d; want %d, %d", name, p.of, got, gotCode, p.want, code)
	}
}

func expectPairs(t *testing.T, name string, function question, r api.Reservoir, pairs []pair) {
	t.Helper()
	for _, p := range pairs {
		expect(t, name, function, r, p, api.OK)
	}
}

// P3.1 to P3.4, R3, R5: whatever level and volume are, an invalid reservoir decides, and the other results are zero.
func TestInvalidReservoirsAreRefusedInOrder(t *testing.T) {
	for _, cases := range []map[string]refused{refusedCurves(), refusedLevels()} {
		for name, c := range cases {
			if code := storage.Check(c.reservoir); code != c.code {
				t.Errorf("%s: Check: error %d; want %d", name, code, c.code)
			}
			for _, n := range []int{math.MinInt, -1, 0, 150, api.MaxLevel + 1, api.MaxVolume + 1, math.MaxInt} {
				expectAll(t, name, c.reservoir, n, n, c.code)
			}
			expectAll(t, name, c.reservoir, 150, 500, c.code)
			expectAll(t, name, c.reservoir, -1, 500, c.code)
			expectAll(t, name, c.reservoir, 150, -1, c.code)
		}
	}
}

// P3.2 to P3.4, R3: numbers that are no level, or no volume.
func TestNumbersOutOfRangeAreRefused(t *testing.T) {
	noLevels := []int{math.MinInt, -api.MaxLevel, -1, api.MaxLevel + 1, api.MaxVolume, math.MaxInt}
	noVolumes := []int{math.MinInt, -api.MaxVolume, -1, api.MaxVolume + 1, math.MaxInt}
	for name, r := range validCases() {
		for _, level := range noLevels {
			expectOfLevel(t, name, r, level, api.ErrRange)
		}
		for _, volume := range noVolumes {
			expectOfVolume(t, name, r, volume, api.ErrRange)
		}
		for _, level := range append(noLevels, 0, 150, api.MaxLevel) {
			for _, volume := range append(noVolumes, 0, 500, api.MaxVolume) {
				if slices.Contains(noLevels, level) || slices.Contains(noVolumes, volume) {
					expectRoom(t, name, r, volume, level, 0, api.ErrRange)
				}
			}
		}
	}
}

// P3.2
func TestVolumeOfNamedCases(t *testing.T) {
	for name, c := range map[string]struct {
		reservoir api.Reservoir
		pairs     []pair
	}{
		"the chapter's example":         {allAt(through(100, 0, 200, 1000), 150), []pair{{150, 500}}},
		"below the first point":         {lake(), []pair{{0, 30}, {1, 30}, {99, 30}}},
		"from the first point on":       {lake(), []pair{{100, 30}, {101, 32}, {149, 128}, {150, 130}, {151, 140}, {199, 620}, {200, 630}}},
		"above the last point":          {lake(), []pair{{201, 630}, {1000, 630}, {api.MaxLevel, 630}}},
		"rounded down":                  {shallow(), []pair{{10, 5}, {13, 5}, {14, 6}, {16, 6}, {17, 7}, {19, 7}, {20, 8}, {29, 8}, {30, 9}}},
		"the greatest level and volume": {steep(), []pair{{0, 0}, {1, 1 << 14}, {api.MaxLevel - 1, api.MaxVolume - 1<<14}, {api.MaxLevel, api.MaxVolume}}},
	} {
		expectPairs(t, name, storage.Volume, c.reservoir, c.pairs)
	}
}

// P3.2
func TestLevelOfNamedCases(t *testing.T) {
	for name, c := range map[string]struct {
		reservoir api.Reservoir
		pairs     []pair
	}{
		"the chapter's example":                 {allAt(through(100, 0, 200, 1000), 150), []pair{{509, 150}}},
		"less than the volume of the first":     {lake(), []pair{{0, 100}, {1, 100}, {29, 100}}},
		"from the volume of the first point on": {lake(), []pair{{30, 100}, {31, 100}, {32, 101}, {129, 149}, {130, 150}, {139, 150}, {140, 151}, {629, 199}, {630, 200}}},
		"more than the volume of the last":      {lake(), []pair{{631, 200}, {api.MaxVolume, 200}}},
		"several levels have the same volume":   {shallow(), []pair{{0, 10}, {4, 10}, {5, 13}, {6, 16}, {7, 19}, {8, 29}, {9, 30}, {10, 30}}},
		"the greatest level and volume":         {steep(), []pair{{0, 0}, {1<<14 - 1, 0}, {1 << 14, 1}, {api.MaxVolume - 1, api.MaxLevel - 1}, {api.MaxVolume, api.MaxLevel}}},
		"the first level is not that of 0":      {allAt(through(5, 7, 6, 8), 5), []pair{{0, 5}, {6, 5}, {7, 5}, {8, 6}}},
		"levels of the zones do not matter":     {allAt(through(100, 0, 200, 1000), 100), []pair{{0, 100}, {509, 150}, {1000, 200}}},
	} {
		expectPairs(t, name, storage.Level, c.reservoir, c.pairs)
	}
}

// P3.3: each border on both of its sides.
func TestZoneOfNamedCases(t *testing.T) {
	points := through(100, 0, 200, 1000)
	for name, c := range map[string]struct {
		reservoir api.Reservoir
		pairs     []pair
	}{
		"levels apart":                         {lake(), []pair{{0, 0}, {99, 0}, {100, 0}, {109, 0}, {110, 1}, {119, 1}, {120, 2}, {169, 2}, {170, 3}, {180, 3}, {181, 4}, {190, 4}, {191, 5}, {200, 5}, {201, 5}, {api.MaxLevel, 5}}},
		"all levels apart by 1":                {reservoir(points, [5]int{101, 102, 103, 104, 105}), []pair{{100, 0}, {101, 1}, {102, 2}, {103, 3}, {104, 3}, {105, 4}, {106, 5}}},
		"Dead and Low at one another":          {reservoir(points, [5]int{110, 110, 180, 190, 195}), []pair{{109, 0}, {110, 2}}},
		"Low and Full at one another":          {reservoir(points, [5]int{110, 120, 120, 190, 195}), []pair{{119, 1}, {120, 3}}},
		"Full and Surcharge at one another":    {reservoir(points, [5]int{110, 120, 190, 190, 195}), []pair{{189, 2}, {190, 3}, {191, 4}}},
		"Surcharge and Crest at one another":   {reservoir(points, [5]int{110, 120, 180, 195, 195}), []pair{{179, 2}, {195, 3}, {196, 5}}},
		"all levels at the first point":        {allAt(points, 100), []pair{{0, 0}, {99, 0}, {100, 3}, {101, 5}}},
		"all levels at the last point":         {allAt(points, 200), []pair{{199, 0}, {200, 3}, {201, 5}, {api.MaxLevel, 5}}},
		"all levels at the greatest":           {allAt(through(0, 0, api.MaxLevel, 9), api.MaxLevel), []pair{{0, 0}, {api.MaxLevel - 1, 0}, {api.MaxLevel, 3}}},
		"all levels 0":                         {allAt(through(0, 0, 1, 1), 0), []pair{{0, 3}, {1, 5}, {api.MaxLevel, 5}}},
		"the greatest level is Crest":          {steep(), []pair{{0, 1}, {1, 2}, {2, 3}, {api.MaxLevel - 1, 3}, {api.MaxLevel, 4}}},
		"below the first point, where Dead is": {reservoir(points, [5]int{100, 101, 102, 103, 104}), []pair{{99, 0}, {100, 1}}},
	} {
		expectPairs(t, name, storage.Zone, c.reservoir, c.pairs)
	}
}

// P3.4
func TestRoomOfNamedCases(t *testing.T) {
	for _, c := range []struct {
		name                string
		reservoir           api.Reservoir
		volume, level, want int
	}{
		{"an empty reservoir", lake(), 0, 150, 130},
		{"less than the volume of the first point", lake(), 20, 100, 10},
		{"just 1", lake(), 129, 150, 1},
		{"nothing: the volume of the level", lake(), 130, 150, 0},
		{"nothing: more by 1", lake(), 131, 150, 0},
		{"nothing: the greatest volume", lake(), api.MaxVolume, 200, 0},
		{"a level below the first point", lake(), 0, 99, 30},
		{"the level 0", lake(), 0, 0, 30},
		{"the level 0, nothing", lake(), 30, 0, 0},
		{"a level above the last point", lake(), 600, 201, 30},
		{"the greatest level", lake(), 0, api.MaxLevel, 630},
		{"the greatest level, nothing", lake(), 630, api.MaxLevel, 0},
		{"a volume that is rounded down", shallow(), 0, 19, 7},
		{"a volume that is rounded down, nothing", shallow(), 7, 19, 0},
		{"the greatest room", steep(), 0, api.MaxLevel, api.MaxVolume},
		{"the greatest level and volume", steep(), api.MaxVolume, api.MaxLevel, 0},
		{"the least level, the greatest volume", steep(), api.MaxVolume, 0, 0},
		{"above Crest", lake(), 500, 195, 80},
	} {
		expectRoom(t, c.name, c.reservoir, c.volume, c.level, c.want, api.OK)
	}
}

// P3.4
func TestUsableOfNamedCases(t *testing.T) {
	for name, c := range map[string]struct {
		reservoir api.Reservoir
		pairs     []pair
	}{
		"Dead between points":          {lake(), []pair{{0, 0}, {30, 0}, {49, 0}, {50, 0}, {51, 1}, {630, 580}, {631, 581}, {api.MaxVolume, api.MaxVolume - 50}}},
		"Dead at the first point":      {shallow(), []pair{{0, 0}, {4, 0}, {5, 0}, {6, 1}, {9, 4}}},
		"Dead where it is rounded":     {allAt(shallow().Storage, 19), []pair{{6, 0}, {7, 0}, {8, 1}}},
		"Dead at the last point":       {allAt(lake().Storage, 200), []pair{{0, 0}, {629, 0}, {630, 0}, {631, 1}, {api.MaxVolume, api.MaxVolume - 630}}},
		"Dead at the volume 0":         {steep(), []pair{{0, 0}, {1, 1}, {api.MaxVolume, api.MaxVolume}}},
		"Dead at the greatest volume":  {allAt(steep().Storage, api.MaxLevel), []pair{{0, 0}, {api.MaxVolume - 1, 0}, {api.MaxVolume, 0}}},
		"Dead just below the greatest": {allAt(steep().Storage, api.MaxLevel-1), []pair{{api.MaxVolume - 1<<14, 0}, {api.MaxVolume, 1 << 14}}},
	} {
		expectPairs(t, name, storage.Usable, c.reservoir, c.pairs)
	}
}

// smallReservoir returns a valid reservoir that is short enough to look at each of its levels.
func smallReservoir(numbers *samples.Sequence) api.Reservoir {
	points := through(numbers.Below(4), numbers.Below(5))
	for range 1 + numbers.Below(5) {
		end := points[len(points)-1]
		points = append(points, api.Point{X: end.X + 1 + numbers.Below(9), Y: end.Y + 1 + numbers.Below(2)*numbers.Below(30)})
	}
	return withLevels(points, numbers)
}

// greatReservoir returns a valid reservoir whose numbers are too great to look at each level.
func greatReservoir(numbers *samples.Sequence) api.Reservoir {
	points := through(numbers.Below(1000), numbers.Below(1000))
	for range 1 + numbers.Below(3) {
		end := points[len(points)-1]
		points = append(points, api.Point{X: end.X + 1 + numbers.Below(1<<(1+numbers.Below(22))), Y: end.Y + 1 + numbers.Below(1<<31)*numbers.Below(30)})
	}
	return withLevels(points, numbers)
}

// withLevels returns a reservoir with levels somewhere on the curve, in order.
func withLevels(points []api.Point, numbers *samples.Sequence) api.Reservoir {
	first, last := points[0].X, points[len(points)-1].X
	var levels [5]int
	for i := range levels {
		levels[i] = first + numbers.Below(last-first+1)
	}
	slices.Sort(levels[:])
	return reservoir(points, levels)
}

// exactVolume is the volume at a level by the promise, found line by line with numbers of any length.
func exactVolume(r api.Reservoir, level int) int {
	if level <= r.Storage[0].X {
		return r.Storage[0].Y
	}
	for i, to := range r.Storage[1:] {
		from := r.Storage[i]
		if level > to.X {
			continue
		}
		product := new(big.Int).Mul(big.NewInt(int64(level-from.X)), big.NewInt(int64(to.Y-from.Y)))
		return from.Y + int(product.Quo(product, big.NewInt(int64(to.X-from.X))).Int64())
	}
	return r.Storage[len(r.Storage)-1].Y
}

// searchedLevel looks at each level of the curve for what Level should return.
func searchedLevel(r api.Reservoir, volume int) int {
	found := r.Storage[0].X
	for level := found; level <= r.Storage[len(r.Storage)-1].X; level++ {
		if exactVolume(r, level) <= volume {
			found = level
		}
	}
	return found
}

// exactZone counts the borders that a level has passed.
func exactZone(r api.Reservoir, level int) int {
	zone := 0
	for _, passed := range []bool{level >= r.Dead, level >= r.Low, level >= r.Full, level > r.Surcharge, level > r.Crest} {
		if passed {
			zone++
		}
	}
	return zone
}

// P3.2 to P3.4 against their definitions, at each level and each volume of small reservoirs.
func TestSmallReservoirsAtEachLevelAndVolume(t *testing.T) {
	numbers := &samples.Sequence{}
	for range 300 {
		r := smallReservoir(numbers)
		before := r
		before.Storage = slices.Clone(r.Storage)
		end := r.Storage[len(r.Storage)-1]
		for level := range end.X + 3 {
			want := exactVolume(r, level)
			expect(t, "Volume", storage.Volume, r, pair{level, want}, api.OK)
			expect(t, "Zone", storage.Zone, r, pair{level, exactZone(r, level)}, api.OK)
			for _, volume := range []int{0, want - 1, want, want + 1, end.Y + 5} {
				if volume >= 0 {
					expectRoom(t, "Room", r, volume, level, max(0, want-volume), api.OK)
				}
			}
		}
		for volume := range end.Y + 3 {
			expect(t, "Level", storage.Level, r, pair{volume, searchedLevel(r, volume)}, api.OK)
			expect(t, "Usable", storage.Usable, r, pair{volume, max(0, volume-exactVolume(r, r.Dead))}, api.OK)
		}
		if t.Failed() {
			t.Fatalf("this was in %v", r)
		}
		if !equal(r, before) {
			t.Fatalf("%v became %v", before, r)
		}
	}
}

// P3.2 where numbers are great: the volumes at the level that is found and above it decide.
func TestGreatReservoirsAreExact(t *testing.T) {
	numbers := &samples.Sequence{}
	for range 1000 {
		r := greatReservoir(numbers)
		start, end := r.Storage[0], r.Storage[len(r.Storage)-1]
		for range 20 {
			asked := numbers.Below(end.X + 9)
			volume := exactVolume(r, asked) - 1 + numbers.Below(3)
			expect(t, "Volume", storage.Volume, r, pair{asked, exactVolume(r, asked)}, api.OK)
			level, code := storage.Level(r, max(0, volume))
			isTooHigh := volume >= start.Y && exactVolume(r, level) > volume
			isTooLow := level < end.X && exactVolume(r, level+1) <= volume
			if code != api.OK || level < start.X || level > end.X || isTooHigh || isTooLow {
				t.Fatalf("%v: Level(%d) = %d, %d", r, volume, level, code)
			}
		}
		if t.Failed() {
			t.Fatalf("this was in %v", r)
		}
	}
}

// Consequences: Volume of Level is at most the volume, and Level of a greater volume is not lower.
func TestLevelAndVolumeKeepTheConsequences(t *testing.T) {
	numbers := &samples.Sequence{}
	for i := range 600 {
		r := smallReservoir(numbers)
		if i%2 == 0 {
			r = greatReservoir(numbers)
		}
		volumes := []int{0, r.Storage[0].Y, api.MaxVolume}
		for range 50 {
			volumes = append(volumes, numbers.Below(r.Storage[len(r.Storage)-1].Y+3))
		}
		slices.Sort(volumes)
		levelBefore := 0
		for _, volume := range volumes {
			level, _ := storage.Level(r, volume)
			if back, code := storage.Volume(r, level); volume >= r.Storage[0].Y && back > volume || code != api.OK {
				t.Fatalf("%v: Volume(Level(%d)) = %d, %d", r, volume, back, code)
			}
			if level < levelBefore {
				t.Fatalf("%v: Level(%d) = %d is lower than %d of a smaller volume", r, volume, level, levelBefore)
			}
			levelBefore = level
		}
	}
}

// P3.1, P3.2: a reservoir refuses all that a curve refuses, and has its values.
func TestReservoirsAgreeWithTheirCurves(t *testing.T) {
	for name, c := range refusedCurves() {
		if code := curve.Check(c.reservoir.Storage); code != api.OK && code != storage.Check(c.reservoir) {
			t.Errorf("%s: the error of the curve is %d", name, code)
		}
	}
	for name, r := range validCases() {
		for _, level := range []int{0, r.Dead, r.Full, r.Crest, api.MaxLevel} {
			want, _ := curve.At(r.Storage, level)
			expect(t, name, storage.Volume, r, pair{level, want}, api.OK)
		}
	}
}

// R2: what is looked at stays as it is, also behind the end of the points, and is not kept.
func TestReservoirsAreNeitherChangedNorKept(t *testing.T) {
	r := lake()
	r.Storage = append(make([]api.Point, 0, 9), r.Storage...)
	storage.Check(r)
	expect(t, "Volume", storage.Volume, r, pair{150, 130}, api.OK)
	expect(t, "Level", storage.Level, r, pair{130, 150}, api.OK)
	expect(t, "Zone", storage.Zone, r, pair{150, 2}, api.OK)
	expect(t, "Usable", storage.Usable, r, pair{51, 1}, api.OK)
	expectRoom(t, "Room", r, 129, 150, 1, api.OK)
	if !equal(r, lake()) || r.Storage[:4][3] != (api.Point{}) {
		t.Errorf("%v became %v", lake(), r)
	}
	r.Storage[1].Y = 31
	expect(t, "Volume of changed points", storage.Volume, r, pair{150, 31}, api.OK)
}

func equal(a, b api.Reservoir) bool {
	return slices.Equal(a.Storage, b.Storage) && [5]int{a.Dead, a.Low, a.Full, a.Surcharge, a.Crest} == [5]int{b.Dead, b.Low, b.Full, b.Surcharge, b.Crest}
}
