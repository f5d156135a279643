package rating_test

import (
	"math"
	"slices"
	"testing"

	"hydrocascade/api"
	"hydrocascade/curve"
	"hydrocascade/rating"
	"hydrocascade/samples"
)

// through is short, because the tables consist of it.
var through = samples.Through

// reading is short, because the tables consist of it.
func reading(value, flag int) api.Reading {
	return api.Reading{Gauge: 3, Time: 96, Value: value, Flag: flag}
}

func ok(value int) api.Reading    { return reading(value, api.FlagOK) }
func ice(value int) api.Reading   { return reading(value, api.FlagIce) }
func fault(value int) api.Reading { return reading(value, api.FlagFault) }

// brook is the rating of the chapter's example.
func brook() api.Rating {
	return api.Rating{Curve: through(0, 0, 100, 1000), Ice: 20}
}

// weir is a rating whose lines are level, gentle and steep, and that begins behind 0: flows 5 up to stage 10, 8 at 20 and 30, 98 from 40 on.
func weir() api.Rating {
	return api.Rating{Curve: through(10, 5, 20, 8, 30, 8, 40, 98), Ice: 4}
}

// wide is a rating whose curve has the greatest X and Y.
func wide() api.Rating {
	return api.Rating{Curve: through(0, 0, api.MaxLevel, api.MaxVolume, api.MaxFlow, api.MaxVolume), Ice: api.MaxLevel}
}

// steps returns so many points whose X and Y rise by 1.
func steps(count int) []api.Point {
	points := make([]api.Point, count)
	for i := range points {
		points[i] = api.Point{X: i, Y: i}
	}
	return points
}

// validRatings are ratings at the ends of what is permitted, and some within.
func validRatings() map[string]api.Rating {
	return map[string]api.Rating{
		"the chapter's example":       brook(),
		"level, gentle and steep":     weir(),
		"the greatest numbers":        wide(),
		"one point of zeros":          {Curve: through(0, 0)},
		"one point":                   {Curve: through(50, 70), Ice: 1},
		"one point, the greatest ice": {Curve: through(50, 70), Ice: api.MaxLevel},
		"nearly the greatest ice":     {Curve: through(0, 0, 9, 9), Ice: api.MaxLevel - 1},
		"no ice":                      {Curve: through(0, 0, 9, 9)},
		"as many points as permitted": {Curve: steps(api.MaxPoints), Ice: 7},
		"levels beyond the greatest":  {Curve: through(api.MaxLevel+1, 3, api.MaxFlow, 9), Ice: 7},
	}
}

// refused is a rating with an error.
type refused struct {
	name   string
	rating api.Rating
	code   api.Errno
}

// refusedRatings are ratings with each of the errors; that of the curve is named before that of the ice.
func refusedRatings() []refused {
	var all []refused
	for _, c := range []struct {
		name   string
		points []api.Point
		code   api.Errno
	}{
		{"no points", nil, api.ErrForm},
		{"an empty curve", []api.Point{}, api.ErrForm},
		{"one point too many", steps(api.MaxPoints + 1), api.ErrLimit},
		{"X below 0", through(-1, 5), api.ErrRange},
		{"the last X too great", through(0, 0, api.MaxFlow+1, 5), api.ErrRange},
		{"Y below 0", through(5, -1), api.ErrRange},
		{"the last Y too great", through(0, 0, 5, api.MaxVolume+1), api.ErrRange},
		{"X that stays", through(5, 5, 5, 6), api.ErrOrder},
		{"X that falls", through(5, 5, 4, 6), api.ErrOrder},
		{"Y that falls", through(5, 5, 6, 4), api.ErrOrder},
		{"a product that is too great", through(0, 0, api.MaxFlow, api.MaxVolume), api.ErrRange},
	} {
		for _, ice := range slices.Concat(notLevels, []int{0, 20, api.MaxLevel}) {
			all = append(all, refused{c.name, api.Rating{Curve: c.points, Ice: ice}, c.code})
		}
	}
	for name, r := range validRatings() {
		for _, ice := range notLevels {
			all = append(all, refused{name + ", but its ice", api.Rating{Curve: r.Curve, Ice: ice}, api.ErrRange})
		}
	}
	return all
}

// Numbers that are permitted, at the ends of their ranges and within, and numbers that are not.
var (
	levels     = []int{0, 1, 15, 100, 101, api.MaxLevel - 1, api.MaxLevel}
	notLevels  = []int{math.MinInt, -api.MaxLevel, -1, api.MaxLevel + 1, api.MaxFlow, math.MaxInt}
	volumes    = []int{0, 1, 500, api.MaxLevel + 1, api.MaxFlow + 1, api.MaxVolume - 1, api.MaxVolume}
	notVolumes = []int{math.MinInt, -api.MaxVolume, -1, api.MaxVolume + 1, math.MaxInt}
)

// wrongReading is a reading with an error.
type wrongReading struct {
	reading api.Reading
	code    api.Errno
}

// wrongReadings are readings with each of the errors, and with several.
func wrongReadings() []wrongReading {
	return []wrongReading{
		{api.Reading{Gauge: -1}, api.ErrRange},
		{api.Reading{Gauge: 256}, api.ErrRange},
		{api.Reading{Time: -1}, api.ErrTime},
		{api.Reading{Time: api.MaxTime + 1}, api.ErrTime},
		{ok(-1), api.ErrRange},
		{ice(-1), api.ErrRange},
		{fault(-1), api.ErrRange},
		{ok(api.MaxFlow + 1), api.ErrRange},
		{ice(api.MaxFlow + 1), api.ErrRange},
		{fault(math.MinInt), api.ErrRange},
		{fault(math.MaxInt), api.ErrRange},
		{reading(50, -1), api.ErrKind},
		{reading(50, api.FlagFault+1), api.ErrKind},
		{api.Reading{Gauge: -1, Time: -1, Value: -1, Flag: -1}, api.ErrRange},
		{api.Reading{Time: -1, Value: -1, Flag: -1}, api.ErrTime},
		{api.Reading{Value: -1, Flag: -1}, api.ErrRange},
		{api.Reading{Time: -1, Flag: api.FlagFault}, api.ErrTime},
		{api.Reading{Gauge: 256, Flag: api.FlagFault}, api.ErrRange},
	}
}

func expectFlow(t *testing.T, name string, r api.Rating, g api.Reading, want int, wantKnown bool, code api.Errno) {
	t.Helper()
	if flow, known, gotCode := rating.Flow(r, g); flow != want || known != wantKnown || gotCode != code {
		t.Errorf("%s: Flow of %v = %d, %t, %d; want %d, %t, %d", name, g, flow, known, gotCode, want, wantKnown, code)
	}
}

func expectFlows(t *testing.T, name string, r api.Rating, l []api.Reading, want []int, wantKnown []bool, code api.Errno) {
	t.Helper()
	if flows, known, gotCode := rating.Flows(r, l); !slices.Equal(flows, want) || !slices.Equal(known, wantKnown) || gotCode != code {
		t.Errorf("%s: Flows = %v, %v, %d; want %v, %v, %d", name, flows, known, gotCode, want, wantKnown, code)
	}
}

func expectStage(t *testing.T, name string, r api.Rating, flow, want int, wantFound bool, code api.Errno) {
	t.Helper()
	if stage, found, gotCode := rating.Stage(r, flow); stage != want || found != wantFound || gotCode != code {
		t.Errorf("%s: Stage(%d) = %d, %t, %d; want %d, %t, %d", name, flow, stage, found, gotCode, want, wantFound, code)
	}
}

func expectSpread(t *testing.T, name string, r api.Rating, stage, off int, want api.Bounds, code api.Errno) {
	t.Helper()
	if spread, gotCode := rating.Spread(r, stage, off); spread != want || gotCode != code {
		t.Errorf("%s: Spread(%d, %d) = %v, %d; want %v, %d", name, stage, off, spread, gotCode, want, code)
	}
}

// P7.1
func TestCheckPermitsValidRatings(t *testing.T) {
	for name, r := range validRatings() {
		if code := rating.Check(r); code != api.OK {
			t.Errorf("%s: error %d", name, code)
		}
	}
}

// P7.1, R5
func TestCheckRefusesInvalidRatingsInOrder(t *testing.T) {
	for _, c := range refusedRatings() {
		if code := rating.Check(c.rating); code != c.code {
			t.Errorf("%s, ice %d: error %d; want %d", c.name, c.rating.Ice, code, c.code)
		}
	}
}

// P7.2, R3, R5: an invalid rating decides, whatever else is asked, and the other results are zero.
func TestInvalidRatingsAreRefusedFirst(t *testing.T) {
	readings := []api.Reading{ok(50), ice(50), fault(50)}
	for _, w := range wrongReadings() {
		readings = append(readings, w.reading)
	}
	for _, c := range refusedRatings() {
		for _, g := range readings {
			expectFlow(t, c.name, c.rating, g, 0, false, c.code)
			expectFlows(t, c.name, c.rating, []api.Reading{g}, nil, nil, c.code)
		}
		expectFlows(t, c.name, c.rating, readings, nil, nil, c.code)
		expectFlows(t, c.name, c.rating, nil, nil, nil, c.code)
		for _, flow := range slices.Concat(notVolumes, volumes) {
			expectStage(t, c.name, c.rating, flow, 0, false, c.code)
		}
		for _, stage := range slices.Concat(notLevels, levels) {
			for _, off := range []int{-1, 0, 15, api.MaxLevel, api.MaxLevel + 1} {
				expectSpread(t, c.name, c.rating, stage, off, api.Bounds{}, c.code)
			}
		}
	}
}

// P7.2, R3, R5: the first reading that has an error decides, wherever it stands.
func TestInvalidReadingsAreRefused(t *testing.T) {
	good := []api.Reading{ok(50), ice(50), fault(50)}
	for name, r := range validRatings() {
		for _, w := range wrongReadings() {
			expectFlow(t, name, r, w.reading, 0, false, w.code)
			for at := range len(good) + 1 {
				expectFlows(t, name, r, slices.Insert(slices.Clone(good), at, w.reading), nil, nil, w.code)
			}
			for _, later := range wrongReadings() {
				expectFlows(t, name, r, []api.Reading{ok(50), w.reading, fault(50), later.reading}, nil, nil, w.code)
			}
		}
	}
}

// P7.2, R3
func TestNumbersOutOfRangeAreRefused(t *testing.T) {
	for name, r := range validRatings() {
		for _, flow := range notVolumes {
			expectStage(t, name, r, flow, 0, false, api.ErrRange)
		}
		for _, wrong := range notLevels {
			for _, other := range slices.Concat(notLevels, levels) {
				expectSpread(t, name, r, wrong, other, api.Bounds{}, api.ErrRange)
				expectSpread(t, name, r, other, wrong, api.Bounds{}, api.ErrRange)
			}
		}
	}
}

// flowCase is a reading, and what is wanted of it.
type flowCase struct {
	reading api.Reading
	flow    int
	known   bool
}

// flowCases are ratings with readings on both sides of their points, of the ice and of 0.
func flowCases() map[string]struct {
	rating api.Rating
	cases  []flowCase
} {
	return map[string]struct {
		rating api.Rating
		cases  []flowCase
	}{
		"the chapter's example":         {brook(), []flowCase{{ice(50), 300, true}}},
		"no ice":                        {brook(), []flowCase{{ok(0), 0, true}, {ok(1), 10, true}, {ok(50), 500, true}, {ok(99), 990, true}, {ok(100), 1000, true}, {ok(101), 1000, true}, {ok(api.MaxFlow), 1000, true}}},
		"ice":                           {brook(), []flowCase{{ice(21), 10, true}, {ice(99), 790, true}, {ice(119), 990, true}, {ice(120), 1000, true}, {ice(121), 1000, true}, {ice(api.MaxFlow), 1000, true}}},
		"ice down to 0":                 {brook(), []flowCase{{ice(20), 0, true}, {ice(19), 0, true}, {ice(1), 0, true}, {ice(0), 0, true}}},
		"faults":                        {brook(), []flowCase{{fault(0), 0, false}, {fault(50), 0, false}, {fault(1000), 0, false}, {fault(api.MaxFlow), 0, false}}},
		"a curve that begins behind 0":  {weir(), []flowCase{{ok(0), 5, true}, {ok(10), 5, true}, {ok(13), 5, true}, {ok(14), 6, true}, {ok(20), 8, true}, {ok(30), 8, true}, {ok(31), 17, true}, {ok(40), 98, true}, {ok(41), 98, true}}},
		"the same under ice":            {weir(), []flowCase{{ice(0), 5, true}, {ice(4), 5, true}, {ice(14), 5, true}, {ice(17), 5, true}, {ice(18), 6, true}, {ice(24), 8, true}, {ice(34), 8, true}, {ice(35), 17, true}, {ice(44), 98, true}, {ice(43), 89, true}}},
		"faults are not the first flow": {weir(), []flowCase{{fault(0), 0, false}, {fault(40), 0, false}}},
		"one point":                     {api.Rating{Curve: through(50, 70), Ice: 1}, []flowCase{{ok(0), 70, true}, {ice(0), 70, true}, {ok(50), 70, true}, {ice(51), 70, true}, {ok(api.MaxFlow), 70, true}, {fault(50), 0, false}}},
		"ice that lowers nothing":       {api.Rating{Curve: through(0, 0, 100, 1000)}, []flowCase{{ice(0), 0, true}, {ice(50), 500, true}, {ice(101), 1000, true}}},
		"the greatest ice":              {wide(), []flowCase{{ok(1), 1 << 14, true}, {ice(1), 0, true}, {ok(api.MaxLevel - 1), api.MaxVolume - 1<<14, true}, {ice(api.MaxLevel), 0, true}, {ice(api.MaxLevel + 1), 1 << 14, true}, {ice(2*api.MaxLevel - 1), api.MaxVolume - 1<<14, true}, {ice(2 * api.MaxLevel), api.MaxVolume, true}, {ice(api.MaxFlow), api.MaxVolume, true}}},
		"stages beyond all levels":      {api.Rating{Curve: through(api.MaxFlow-10, 0, api.MaxFlow, 10), Ice: 7}, []flowCase{{ok(api.MaxFlow), 10, true}, {ice(api.MaxFlow), 3, true}, {ok(api.MaxFlow - 9), 1, true}, {ice(api.MaxFlow - 9), 0, true}}},
		"gauge and step do not matter":  {brook(), []flowCase{{api.Reading{Value: 7}, 70, true}, {api.Reading{Gauge: 255, Time: api.MaxTime, Value: 7}, 70, true}, {api.Reading{Gauge: 255, Time: api.MaxTime, Value: 27, Flag: api.FlagIce}, 70, true}}},
	}
}

// P7.2
func TestFlowAndFlowsOfNamedCases(t *testing.T) {
	for name, c := range flowCases() {
		var (
			list  []api.Reading
			flows []int
			known []bool
		)
		for _, f := range c.cases {
			expectFlow(t, name, c.rating, f.reading, f.flow, f.known, api.OK)
			list, flows, known = append(list, f.reading), append(flows, f.flow), append(known, f.known)
		}
		expectFlows(t, name, c.rating, list, flows, known, api.OK)
	}
}

// P7.2: none, and more readings than a list of gauge may have.
func TestFlowsOfListsOfAnyLength(t *testing.T) {
	expectFlows(t, "no readings", weir(), nil, nil, nil, api.OK)
	expectFlows(t, "an empty slice", weir(), []api.Reading{}, nil, nil, api.OK)
	const count = 2*api.MaxList + 1
	list, flows, known := make([]api.Reading, count), make([]int, count), make([]bool, count)
	for i := range list {
		list[i], flows[i], known[i] = ok(i%100), i%100*10, true
		if i%3 == 0 {
			list[i], flows[i], known[i] = fault(i), 0, false
		}
	}
	expectFlows(t, "many readings", brook(), list, flows, known, api.OK)
	list[count-1].Flag = 9
	expectFlows(t, "many readings, the last wrong", brook(), list, nil, nil, api.ErrKind)
}

// P7.2: points, and the flows on both sides of them.
func TestStageOfNamedCases(t *testing.T) {
	const none = -1
	for name, c := range map[string]struct {
		rating api.Rating
		pairs  [][2]int
	}{
		"the chapter's example":           {brook(), [][2]int{{0, 0}, {1, 1}, {10, 1}, {11, 2}, {300, 30}, {999, 100}, {1000, 100}, {1001, none}, {api.MaxVolume, none}}},
		"level, gentle and steep":         {weir(), [][2]int{{0, 10}, {5, 10}, {6, 14}, {7, 17}, {8, 20}, {9, 31}, {17, 31}, {18, 32}, {97, 40}, {98, 40}, {99, none}}},
		"one point":                       {api.Rating{Curve: through(50, 70), Ice: 1}, [][2]int{{0, 50}, {69, 50}, {70, 50}, {71, none}}},
		"the greatest flow":               {wide(), [][2]int{{0, 0}, {1, 1}, {1 << 14, 1}, {1<<14 + 1, 2}, {api.MaxVolume - 1, api.MaxLevel}, {api.MaxVolume, api.MaxLevel}}},
		"no flow":                         {api.Rating{Curve: through(0, 0)}, [][2]int{{0, 0}, {1, none}, {api.MaxVolume, none}}},
		"a stage beyond all levels":       {api.Rating{Curve: through(0, 0, api.MaxFlow-1, 0, api.MaxFlow, 9)}, [][2]int{{0, 0}, {1, api.MaxFlow}, {9, api.MaxFlow}, {10, none}}},
		"a stage of 0, and there is none": {api.Rating{Curve: through(0, 4, 9, 4)}, [][2]int{{4, 0}, {5, none}}},
	} {
		for _, pair := range c.pairs {
			found := pair[1] != none
			expectStage(t, name, c.rating, pair[0], max(0, pair[1]), found, api.OK)
		}
	}
}

// P7.2: a stage less off above 0, at 0 and below; a stage plus off before the end of the curve and behind it.
func TestSpreadOfNamedCases(t *testing.T) {
	for _, c := range []struct {
		name       string
		rating     api.Rating
		stage, off int
		want       api.Bounds
	}{
		{"both within the curve", brook(), 50, 20, api.Bounds{Least: 300, Most: 700}},
		{"nothing off", brook(), 50, 0, api.Bounds{Least: 500, Most: 500}},
		{"just 1 off", brook(), 50, 1, api.Bounds{Least: 490, Most: 510}},
		{"less off is 1", brook(), 50, 49, api.Bounds{Least: 10, Most: 990}},
		{"less off is 0", brook(), 50, 50, api.Bounds{Least: 0, Most: 1000}},
		{"less off is negative", brook(), 30, 31, api.Bounds{Least: 0, Most: 610}},
		{"the stage 0", brook(), 0, 30, api.Bounds{Least: 0, Most: 300}},
		{"the stage 0, nothing off", brook(), 0, 0, api.Bounds{}},
		{"plus off is behind the curve", brook(), 99, 2, api.Bounds{Least: 970, Most: 1000}},
		{"both are behind the curve", brook(), 200, 50, api.Bounds{Least: 1000, Most: 1000}},
		{"the ice does not matter", api.Rating{Curve: brook().Curve, Ice: api.MaxLevel}, 50, 20, api.Bounds{Least: 300, Most: 700}},
		{"both are before the curve", weir(), 5, 5, api.Bounds{Least: 5, Most: 5}},
		{"over all of the curve", weir(), 20, 30, api.Bounds{Least: 5, Most: 98}},
		{"on a level line", weir(), 25, 5, api.Bounds{Least: 8, Most: 8}},
		{"both are rounded down", weir(), 16, 2, api.Bounds{Least: 6, Most: 7}},
		{"the greatest stage", wide(), api.MaxLevel, 1, api.Bounds{Least: api.MaxVolume - 1<<14, Most: api.MaxVolume}},
		{"the greatest off", wide(), 1, api.MaxLevel, api.Bounds{Least: 0, Most: api.MaxVolume}},
		{"the greatest stage and off", wide(), api.MaxLevel, api.MaxLevel, api.Bounds{Least: 0, Most: api.MaxVolume}},
		{"plus off is no level", api.Rating{Curve: through(api.MaxLevel, 0, 2*api.MaxLevel, api.MaxLevel)}, api.MaxLevel, api.MaxLevel, api.Bounds{Least: 0, Most: api.MaxLevel}},
		{"plus off is no level by 1", api.Rating{Curve: through(api.MaxLevel, 0, 2*api.MaxLevel, api.MaxLevel)}, api.MaxLevel, 1, api.Bounds{Least: 0, Most: 1}},
	} {
		expectSpread(t, c.name, c.rating, c.stage, c.off, c.want, api.OK)
	}
}

// lowered is a stage that is lowered by the promise.
func lowered(stage, by int) int {
	if by > stage {
		return 0
	}
	return stage - by
}

// valueAt is the value of a valid curve.
func valueAt(t *testing.T, points []api.Point, x int) int {
	t.Helper()
	value, code := curve.At(points, x)
	if code != api.OK {
		t.Fatalf("%v: error %d", points, code)
	}
	return value
}

// P7.2 against its definitions, at each stage and each flow of small curves.
func TestSmallRatingsAtEachStageAndFlow(t *testing.T) {
	numbers := &samples.Sequence{}
	for range 300 {
		r := api.Rating{Curve: samples.SmallCurve(numbers), Ice: numbers.Below(12)}
		end := r.Curve[len(r.Curve)-1]
		for stage := range end.X + 15 {
			expectFlow(t, "a random rating", r, ok(stage), valueAt(t, r.Curve, stage), true, api.OK)
			expectFlow(t, "a random rating", r, ice(stage), valueAt(t, r.Curve, lowered(stage, r.Ice)), true, api.OK)
			expectFlow(t, "a random rating", r, fault(stage), 0, false, api.OK)
			for off := range end.X + 5 {
				want := api.Bounds{Least: valueAt(t, r.Curve, lowered(stage, off)), Most: valueAt(t, r.Curve, stage+off)}
				expectSpread(t, "a random rating", r, stage, off, want, api.OK)
			}
		}
		for flow := range end.Y + 3 {
			first, found := searchedStage(t, r.Curve, flow)
			expectStage(t, "a random rating", r, flow, first, found, api.OK)
		}
		if t.Failed() {
			t.Fatalf("this was in %v", r)
		}
	}
}

// searchedStage looks at each stage of the curve for what Stage should return.
func searchedStage(t *testing.T, points []api.Point, flow int) (int, bool) {
	t.Helper()
	for stage := points[0].X; stage <= points[len(points)-1].X; stage++ {
		if valueAt(t, points, stage) >= flow {
			return stage, true
		}
	}
	return 0, false
}

// P7.2: Flows is Flow of each reading, in random lists in which readings may be wrong.
func TestFlowsIsFlowOfEach(t *testing.T) {
	numbers := &samples.Sequence{}
	for range 2000 {
		r := api.Rating{Curve: samples.SmallCurve(numbers), Ice: numbers.Below(12)}
		list := make([]api.Reading, numbers.Below(8))
		var (
			flows []int
			known []bool
			first api.Errno
		)
		for i := range list {
			list[i] = reading(numbers.Below(60), numbers.Below(3))
			if numbers.Below(12) == 0 {
				list[i] = wrongReadings()[numbers.Below(len(wrongReadings()))].reading
			}
			flow, isKnown, code := rating.Flow(r, list[i])
			flows, known = append(flows, flow), append(known, isKnown)
			if first == api.OK {
				first = code
			}
		}
		if first != api.OK {
			flows, known = nil, nil
		}
		expectFlows(t, "a random list", r, list, flows, known, first)
	}
}

// Consequences: under ice the flow is at most that without ice, and the flow of a stage lies within each Spread.
func TestConsequences(t *testing.T) {
	for name, r := range validRatings() {
		for _, stage := range slices.Concat(levels, []int{9, 10, 11, 20, 21, 30, 40, 50, 99}) {
			flow, _, _ := rating.Flow(r, ok(stage))
			if under, known, code := rating.Flow(r, ice(stage)); under > flow || !known || code != api.OK {
				t.Errorf("%s: %d under ice, %d without, at stage %d", name, under, flow, stage)
			}
			for _, off := range levels {
				if spread, code := rating.Spread(r, stage, off); flow < spread.Least || flow > spread.Most || code != api.OK {
					t.Errorf("%s: %d at stage %d is not within Spread %v of %d", name, flow, stage, spread, off)
				}
			}
		}
	}
}

// callAll calls all functions, also with numbers that are refused.
func callAll(r api.Rating, l []api.Reading) {
	rating.Check(r)
	rating.Flows(r, l)
	for _, g := range l {
		rating.Flow(r, g)
	}
	for _, number := range []int{-1, 0, 15, 500, api.MaxLevel, api.MaxVolume + 1} {
		rating.Stage(r, number)
		rating.Spread(r, number, 20)
	}
}

// R2: what is passed in stays as it is, also around it where the slice has room.
func TestArgumentsAreNotChanged(t *testing.T) {
	ratings := refusedRatings()
	for name, r := range validRatings() {
		ratings = append(ratings, refused{name, r, api.OK})
	}
	l, readings := samples.Window([]api.Reading{ok(50), ice(50), fault(50), ice(0), reading(50, 9)}, reading(7, 8))
	readingsBefore := slices.Clone(readings)
	for _, c := range ratings {
		points, whole := samples.Window(c.rating.Curve, api.Point{X: 1000, Y: -1000})
		wholeBefore := slices.Clone(whole)
		r := api.Rating{Curve: points, Ice: c.rating.Ice}
		callAll(r, l)
		callAll(r, l[:4])
		if !slices.Equal(whole, wholeBefore) || !slices.Equal(readings, readingsBefore) {
			t.Errorf("%s: the arguments were changed", c.name)
		}
	}
}

// R2, R4: results are new memory, and nothing is kept of arguments that are changed afterwards.
func TestResultsAreNewMemory(t *testing.T) {
	r, l := brook(), []api.Reading{ok(50), ice(50), fault(50)}
	flows, known, _ := rating.Flows(r, l)
	again, knownAgain, _ := rating.Flows(r, l)
	again[0], knownAgain[0] = 99, false
	r.Curve[1], l[1] = api.Point{X: 200, Y: 1000}, ok(7)
	if !slices.Equal(flows, []int{500, 300, 0}) || !slices.Equal(known, []bool{true, true, false}) {
		t.Errorf("%v, %v: a result changed with an argument, or with another result", flows, known)
	}
	expectFlows(t, "changed arguments", r, l, []int{250, 35, 0}, []bool{true, true, false}, api.OK)
	expectFlow(t, "a changed curve", r, ice(50), 150, true, api.OK)
	expectStage(t, "a changed curve", r, 500, 100, true, api.OK)
	expectSpread(t, "a changed curve", r, 50, 20, api.Bounds{Least: 150, Most: 350}, api.OK)
}
