package forecast_test

import (
	"math"
	"math/big"
	"slices"
	"testing"

	"hydrocascade/api"
	"hydrocascade/forecast"
	"hydrocascade/samples"
)

// As many scenarios, and flows of each, as a bundle may have.
const (
	mostScenarios = 50
	mostFlows     = 1000
)

// Numbers that From may be, and numbers that it may not be.
var (
	times    = []int{0, 1, 50, api.MaxTime - 1, api.MaxTime}
	notTimes = []int{math.MinInt, -api.MaxTime, -1, api.MaxTime + 1, math.MaxInt}
)

// Numbers that are weights, which num and den are too, and numbers that are not.
var (
	weights    = []int{1, 2, 50, api.MaxWeight - 1, api.MaxWeight}
	notWeights = []int{math.MinInt, -api.MaxWeight, -1, 0, api.MaxWeight + 1, math.MaxInt}
)

// Numbers that are flows, and numbers that are not.
var (
	flows    = []int{0, 1, 50, api.MaxFlow - 1, api.MaxFlow}
	notFlows = []int{math.MinInt, -api.MaxFlow, -1, api.MaxFlow + 1, api.MaxVolume, math.MaxInt}
)

func scenario(weight int, flows ...int) api.Scenario {
	return api.Scenario{Weight: weight, Flows: flows}
}

func bundle(from int, scenarios ...api.Scenario) api.Bundle {
	return api.Bundle{From: from, Scenarios: scenarios}
}

func withdrawn(b api.Bundle) api.Bundle {
	b.Withdrawn = true
	return b
}

// usual is a bundle that covers the steps 5 to 7, whose scenarios are not in the order of their flows, weights of 10 together.
func usual() api.Bundle {
	return bundle(5, scenario(2, 30, 0, 7), scenario(5, 10, 40, 7), scenario(3, 20, 40, 7))
}

// great is a bundle of so many scenarios and flows, all alike.
func great(scenarios, flows, weight, flow int) api.Bundle {
	return bundle(5, slices.Repeat([]api.Scenario{scenario(weight, repeat(flow, flows)...)}, scenarios)...)
}

// repeat returns so many numbers, all of them the same.
func repeat(number, count int) []int { return slices.Repeat([]int{number}, count) }

func sameScenarios(a, b api.Scenario) bool {
	return a.Weight == b.Weight && slices.Equal(a.Flows, b.Flows)
}

func same(a, b api.Bundle) bool {
	return a.From == b.From && a.Withdrawn == b.Withdrawn && slices.EqualFunc(a.Scenarios, b.Scenarios, sameScenarios)
}

// isZero reports whether a bundle is the zero value, but for an empty slice.
func isZero(b api.Bundle) bool { return same(b, api.Bundle{}) }

// copyOf returns a bundle that shares no memory with this one.
func copyOf(b api.Bundle) api.Bundle {
	b.Scenarios = slices.Clone(b.Scenarios)
	for i, s := range b.Scenarios {
		b.Scenarios[i].Flows = slices.Clone(s.Flows)
	}
	return b
}

// question is what the functions are asked of a bundle.
type question struct{ time, num, den, steps, flow int }

// wrong is a question that no function answers.
func wrong() question { return question{time: -1, num: 2, den: 1, steps: -1} }

// answer is the error of a function, and whether all else that it returned is zero.
type answer struct {
	code   api.Errno
	isZero bool
}

// answers asks a bundle all functions but Check and Latest, by their names.
func answers(b api.Bundle, q question) map[string]answer {
	quantile, quantileCode := forecast.Quantile(b, q.time, q.num, q.den)
	mean, meanCode := forecast.Mean(b, q.time)
	volumes, volumesCode := forecast.Volumes(b, q.steps)
	exceeding, all, exceedsCode := forecast.Exceeds(b, q.time, q.flow)
	gone, withdrawCode := forecast.Withdraw(b)
	shifted, shiftCode := forecast.Shift(b, q.time)
	return map[string]answer{
		"Quantile": {quantileCode, quantile == 0},
		"Mean":     {meanCode, mean == 0},
		"Volumes":  {volumesCode, len(volumes) == 0},
		"Exceeds":  {exceedsCode, exceeding == 0 && all == 0},
		"Withdraw": {withdrawCode, isZero(gone)},
		"Shift":    {shiftCode, isZero(shifted)},
	}
}

// expectAnswers expects these errors of the functions, and nothing else where there is one.
func expectAnswers(t *testing.T, name string, b api.Bundle, q question, codes map[string]api.Errno) {
	t.Helper()
	for function, got := range answers(b, q) {
		if got.code != codes[function] || got.code != api.OK && !got.isZero {
			t.Errorf("%s: %s with %v has the error %d, all else zero: %t; want %d", name, function, q, got.code, got.isZero, codes[function])
		}
	}
}

// allWith are the errors of all functions where a bundle itself has one.
func allWith(code api.Errno) map[string]api.Errno {
	return map[string]api.Errno{"Quantile": code, "Mean": code, "Volumes": code, "Exceeds": code, "Withdraw": code, "Shift": code}
}

// expectCheck expects that of Check, withdrawn or not, and of all functions whatever else is wrong.
func expectCheck(t *testing.T, name string, b api.Bundle, code api.Errno) {
	t.Helper()
	right := question{time: b.From, num: 1, den: 2, steps: 1, flow: 5}
	for _, b := range []api.Bundle{b, withdrawn(b)} {
		if got := forecast.Check(b); got != code {
			t.Errorf("%s: Check = %d; want %d", name, got, code)
		}
		if code != api.OK {
			expectAnswers(t, name, b, right, allWith(code))
			expectAnswers(t, name, b, wrong(), allWith(code))
		}
	}
	if code == api.OK {
		expectAnswers(t, name, b, right, allWith(api.OK))
	}
	if at, found := forecast.Latest([]api.Bundle{usual(), b}, b.From); code == api.OK && (at != 1 || !found) || code != api.OK && at != 0 {
		t.Errorf("%s: Latest = %d, %t", name, at, found)
	}
}

func expectQuantile(t *testing.T, name string, b api.Bundle, time, num, den, want int, code api.Errno) {
	t.Helper()
	if got, gotCode := forecast.Quantile(b, time, num, den); got != want || gotCode != code {
		t.Errorf("%s: Quantile %d/%d of step %d = %d, %d; want %d, %d", name, num, den, time, got, gotCode, want, code)
	}
}

func expectMean(t *testing.T, name string, b api.Bundle, time, want int, code api.Errno) {
	t.Helper()
	if got, gotCode := forecast.Mean(b, time); got != want || gotCode != code {
		t.Errorf("%s: Mean of step %d = %d, %d; want %d, %d", name, time, got, gotCode, want, code)
	}
}

func expectExceeds(t *testing.T, name string, b api.Bundle, time, flow, want, wantAll int, code api.Errno) {
	t.Helper()
	if got, all, gotCode := forecast.Exceeds(b, time, flow); got != want || all != wantAll || gotCode != code {
		t.Errorf("%s: Exceeds of step %d, %d = %d, %d, %d; want %d, %d, %d", name, time, flow, got, all, gotCode, want, wantAll, code)
	}
}

func expectVolumes(t *testing.T, name string, b api.Bundle, steps int, want []int, code api.Errno) {
	t.Helper()
	if got, gotCode := forecast.Volumes(b, steps); !slices.Equal(got, want) || gotCode != code {
		t.Errorf("%s: Volumes of %d steps = %v, %d; want %v, %d", name, steps, got, gotCode, want, code)
	}
}

func expectWithdrawn(t *testing.T, name string, b, want api.Bundle) {
	t.Helper()
	if got, code := forecast.Withdraw(b); !same(got, want) || code != api.OK {
		t.Errorf("%s: Withdraw of %v = %v, %d; want %v", name, b, got, code, want)
	}
}

func expectShift(t *testing.T, name string, b api.Bundle, time int, want api.Bundle, code api.Errno) {
	t.Helper()
	if got, gotCode := forecast.Shift(b, time); !same(got, want) || gotCode != code {
		t.Errorf("%s: Shift of %v to step %d = %v, %d; want %v, %d", name, b, time, got, gotCode, want, code)
	}
}

func expectLatest(t *testing.T, name string, l []api.Bundle, time, want int, found bool) {
	t.Helper()
	if got, gotFound := forecast.Latest(l, time); got != want || gotFound != found {
		t.Errorf("%s: Latest for step %d = %d, %t; want %d, %t", name, time, got, gotFound, want, found)
	}
}

// P10.1: each number at the ends of its range and beyond, wherever it stands.
func TestCheckPermitsNumbersInTheirRangesAlone(t *testing.T) {
	for _, from := range times {
		b := usual()
		b.From = from
		expectCheck(t, "From", b, api.OK)
	}
	for _, from := range notTimes {
		b := usual()
		b.From = from
		expectCheck(t, "From", b, api.ErrTime)
	}
	for at := range usual().Scenarios {
		for _, weight := range slices.Concat(weights, notWeights) {
			b, want := usual(), api.OK
			b.Scenarios[at].Weight = weight
			if slices.Contains(notWeights, weight) {
				want = api.ErrRange
			}
			expectCheck(t, "a weight", b, want)
		}
		for step := range usual().Scenarios[at].Flows {
			for _, flow := range slices.Concat(flows, notFlows) {
				b, want := usual(), api.OK
				b.Scenarios[at].Flows[step] = flow
				if slices.Contains(notFlows, flow) {
					want = api.ErrRange
				}
				expectCheck(t, "a flow", b, want)
			}
		}
	}
}

// P10.1: how many scenarios there may be, and how many flows.
func TestCheckPermitsCountsWithinTheLimits(t *testing.T) {
	for scenarios, want := range map[int]api.Errno{
		0: api.ErrForm, 1: api.OK, 2: api.OK, mostScenarios - 1: api.OK, mostScenarios: api.OK,
		mostScenarios + 1: api.ErrLimit, mostScenarios + 2: api.ErrLimit, 3 * mostScenarios: api.ErrLimit, mostFlows: api.ErrLimit,
	} {
		expectCheck(t, "so many scenarios", great(scenarios, 2, 1, 9), want)
	}
	for count, want := range map[int]api.Errno{
		0: api.ErrForm, 1: api.OK, 2: api.OK, mostFlows - 1: api.OK, mostFlows: api.OK,
		mostFlows + 1: api.ErrLimit, mostFlows + 2: api.ErrLimit, 3 * mostFlows: api.ErrLimit,
	} {
		expectCheck(t, "so many flows", great(1, count, 1, 9), want)
		expectCheck(t, "so many flows of two", great(2, count, 1, 9), want)
	}
	expectCheck(t, "as many as permitted", great(mostScenarios, mostFlows, api.MaxWeight, api.MaxFlow), api.OK)
	expectCheck(t, "an empty slice", api.Bundle{Scenarios: []api.Scenario{}}, api.ErrForm)
	expectCheck(t, "an empty slice of flows", bundle(0, scenario(1, []int{}...)), api.ErrForm)
	expectCheck(t, "the zero value", api.Bundle{}, api.ErrForm)
	for first := range 5 {
		for second := range 5 {
			want := api.ErrForm
			if first == second && first > 0 {
				want = api.OK
			}
			expectCheck(t, "two counts of flows", bundle(0, scenario(1, repeat(9, first)...), scenario(1, repeat(9, second)...)), want)
			expectCheck(t, "two counts of flows, the other one between", bundle(0, scenario(1, repeat(9, first)...), scenario(1, repeat(9, second)...), scenario(1, repeat(9, first)...)), want)
		}
	}
}

// P10.1, R5: each error with those that are named behind it, and the first scenario that has one.
func TestCheckRefusesInOrder(t *testing.T) {
	for _, from := range notTimes {
		expectCheck(t, "From, and no scenarios", bundle(from), api.ErrTime)
		expectCheck(t, "From, and too many scenarios", bundle(from, slices.Repeat([]api.Scenario{scenario(1, 9)}, mostScenarios+1)...), api.ErrTime)
		expectCheck(t, "From, and all else", bundle(from, scenario(0)), api.ErrTime)
		expectCheck(t, "From, and a flow", bundle(from, scenario(1, -1)), api.ErrTime)
	}
	tooMany, right := repeat(9, mostFlows+1), repeat(9, mostFlows)
	tooManyWrong := repeat(-1, mostFlows+1)
	for name, c := range map[string]struct {
		b    api.Bundle
		want api.Errno
	}{
		"too many scenarios, all wrong":                 {great(mostScenarios+1, 0, 0, 0), api.ErrLimit},
		"too many scenarios, and weights":               {great(mostScenarios+1, 1, 0, 9), api.ErrLimit},
		"too many scenarios, and flows":                 {great(mostScenarios+1, 1, 1, -1), api.ErrLimit},
		"the weight, and no flows":                      {bundle(0, scenario(0)), api.ErrRange},
		"the weight, and another number of flows":       {bundle(0, scenario(1, 9), scenario(0, 9, 9)), api.ErrRange},
		"the weight, and too many flows":                {bundle(0, scenario(0, tooMany...)), api.ErrRange},
		"no flows of all":                               {bundle(0, scenario(1), scenario(1)), api.ErrForm},
		"no flows of the first":                         {bundle(0, scenario(1), scenario(1, 9)), api.ErrForm},
		"no flows of the second":                        {bundle(0, scenario(1, 9), scenario(1)), api.ErrForm},
		"another number of flows, and a flow":           {bundle(0, scenario(1, 9), scenario(1, -1, -1)), api.ErrForm},
		"another number of flows, and too many":         {bundle(0, scenario(1, right...), scenario(1, tooMany...)), api.ErrForm},
		"too many flows, and a flow":                    {bundle(0, scenario(1, tooManyWrong...)), api.ErrLimit},
		"the same number of too many":                   {bundle(0, scenario(1, tooMany...), scenario(1, tooMany...)), api.ErrLimit},
		"too many flows, and another number behind":     {bundle(0, scenario(1, tooMany...), scenario(1, 9)), api.ErrLimit},
		"a flow, and a weight behind":                   {bundle(0, scenario(1, -1), scenario(0, 9)), api.ErrRange},
		"a flow, and another number behind":             {bundle(0, scenario(1, -1, 9), scenario(1, 9)), api.ErrRange},
		"another number of flows, and a weight behind":  {bundle(0, scenario(1, 9), scenario(1, 9, 9), scenario(0, 9)), api.ErrForm},
		"a weight, and another number of flows behind":  {bundle(0, scenario(1, 9), scenario(0, 9), scenario(1, 9, 9)), api.ErrRange},
		"a flow of the second, and a number behind":     {bundle(0, scenario(1, 9, 9), scenario(1, 9, -1), scenario(1, 9)), api.ErrRange},
		"another number of flows, and a flow behind":    {bundle(0, scenario(1, 9), scenario(1, 9, 9), scenario(1, -1)), api.ErrForm},
		"a weight of the first, and no flows behind":    {bundle(0, scenario(0, 9), scenario(1)), api.ErrRange},
		"no flows of the first, and all else behind":    {bundle(0, scenario(1), scenario(0, -1)), api.ErrForm},
		"the last flow of the last scenario of many":    {lastFlowWrong(), api.ErrRange},
		"the last weight of many":                       {lastWeightWrong(), api.ErrRange},
		"the last number of flows of many is one less":  {lastFlowsCut(mostFlows - 1), api.ErrForm},
		"the last number of flows of many is one":       {lastFlowsCut(1), api.ErrForm},
		"the last number of flows of many is all of it": {lastFlowsCut(mostFlows), api.OK},
	} {
		expectCheck(t, name, c.b, c.want)
	}
}

// lastFlowWrong is a bundle that is wrong at its end alone.
func lastFlowWrong() api.Bundle {
	b := copyOf(great(mostScenarios, mostFlows, 1, 9))
	b.Scenarios[mostScenarios-1].Flows[mostFlows-1] = -1
	return b
}

// lastWeightWrong is a bundle whose last scenario has a wrong weight.
func lastWeightWrong() api.Bundle {
	b := great(mostScenarios, mostFlows, 1, 9)
	b.Scenarios[mostScenarios-1].Weight = 0
	return b
}

// lastFlowsCut is a bundle whose last scenario has so many flows.
func lastFlowsCut(count int) api.Bundle {
	b := great(mostScenarios, mostFlows, 1, 9)
	b.Scenarios[mostScenarios-1].Flows = b.Scenarios[mostScenarios-1].Flows[:count]
	return b
}

// P10.2, P10.4, R5: a bundle that is withdrawn is asked nothing, whatever else is wrong, but can be withdrawn and shifted.
func TestWithdrawnBundlesAreAskedNothing(t *testing.T) {
	codes := map[string]api.Errno{"Quantile": api.ErrNone, "Mean": api.ErrNone, "Volumes": api.ErrNone, "Exceeds": api.ErrNone}
	expectAnswers(t, "withdrawn", withdrawn(usual()), question{time: 6, num: 1, den: 2, steps: 1}, codes)
	codes["Shift"] = api.ErrTime
	expectAnswers(t, "withdrawn", withdrawn(usual()), wrong(), codes)
	for _, time := range []int{math.MinInt, 4, 8, math.MaxInt} {
		expectAnswers(t, "withdrawn", withdrawn(usual()), question{time: time, num: 1, den: 2, steps: 1}, codes)
	}
	gone, code := forecast.Withdraw(usual())
	if code != api.OK {
		t.Fatal("Withdraw: error", code)
	}
	expectAnswers(t, "withdrawn by Withdraw", gone, wrong(), codes)
}

// P10.2, P10.3, P10.4, R5: each of the other errors, with those that are named behind it.
func TestQuestionsAreRefusedInOrder(t *testing.T) {
	right := question{time: 6, num: 1, den: 2, steps: 1, flow: 5}
	expectAnswers(t, "right", usual(), right, nil)
	for _, time := range []int{math.MinInt, -api.MaxTime, -1, 0, 4, 8, api.MaxTime, math.MaxInt, math.MinInt + 5, math.MaxInt - 5} {
		q := right
		q.time = time
		codes := map[string]api.Errno{"Quantile": api.ErrTime, "Mean": api.ErrTime, "Exceeds": api.ErrTime, "Shift": api.ErrTime}
		expectAnswers(t, "a step that is not covered", usual(), q, codes)
		q.num = 0
		codes["Quantile"] = api.ErrRange
		expectAnswers(t, "a step that is not covered, and num", usual(), q, codes)
		q.num, q.den = 1, 0
		expectAnswers(t, "a step that is not covered, and den", usual(), q, codes)
		q.num, q.den = 2, 1
		expectAnswers(t, "a step that is not covered, and a fraction", usual(), q, codes)
	}
	for _, time := range []int{5, 6, 7} {
		q := right
		q.time = time
		expectAnswers(t, "a step that is covered", usual(), q, nil)
	}
	for _, steps := range []int{0, 1, 2, 3} {
		q := right
		q.steps = steps
		expectAnswers(t, "steps", usual(), q, nil)
	}
	for _, steps := range []int{math.MinInt, -1, 4, mostFlows, math.MaxInt} {
		q := right
		q.steps = steps
		expectAnswers(t, "steps", usual(), q, map[string]api.Errno{"Volumes": api.ErrRange})
	}
	for _, flow := range slices.Concat(flows, notFlows) {
		q := right
		q.flow = flow
		expectAnswers(t, "a flow", usual(), q, nil)
	}
}

// P10.2: num and den at the ends of their ranges and beyond.
func TestQuantileTakesFractionsUpToOneAlone(t *testing.T) {
	numbers := slices.Concat(weights, notWeights)
	for _, num := range numbers {
		for _, den := range numbers {
			code, want := api.ErrRange, 0
			if slices.Contains(weights, num) && slices.Contains(weights, den) && num <= den {
				code, want = api.OK, searchedQuantile(usual(), 0, num, den)
			}
			expectQuantile(t, "a fraction", usual(), 5, num, den, want, code)
		}
	}
	for den := range 12 {
		expectQuantile(t, "a fraction of one more", usual(), 5, den+1, den, 0, api.ErrRange)
	}
}

// P10.2
func TestQuantileOfNamedCases(t *testing.T) {
	const most, all = api.MaxFlow, api.MaxWeight
	example := bundle(0, scenario(1, 10), scenario(3, 20))
	full := great(mostScenarios, mostFlows, all, most)
	full.Scenarios[30] = scenario(all, repeat(0, mostFlows)...)
	for name, c := range map[string]struct {
		b                    api.Bundle
		time, num, den, want int
	}{
		"the chapter's example, 1/4":           {example, 0, 1, 4, 10},
		"the chapter's example, 1/2":           {example, 0, 1, 2, 20},
		"the example, just above 1/4":          {example, 0, 2501, all, 20},
		"the example, just below 1/4":          {example, 0, 2499, all, 10},
		"the example, 1/1":                     {example, 0, 1, 1, 20},
		"the example, the least":               {example, 0, 1, all, 10},
		"one scenario, the least":              {bundle(3, scenario(7, 5)), 3, 1, all, 5},
		"one scenario, 1/1":                    {bundle(3, scenario(7, 5)), 3, 1, 1, 5},
		"no flow":                              {bundle(3, scenario(7, 0)), 3, 1, 1, 0},
		"the first step, up to 5/10":           {usual(), 5, 5, 10, 10},
		"the first step, from 6/10 on":         {usual(), 5, 6, 10, 20},
		"the first step, up to 8/10":           {usual(), 5, 8, 10, 20},
		"the first step, from 9/10 on":         {usual(), 5, 9, 10, 30},
		"the second step, up to 2/10":          {usual(), 6, 2, 10, 0},
		"the second step, from 3/10 on":        {usual(), 6, 3, 10, 40},
		"the last step, all alike":             {usual(), 7, 1, 2, 7},
		"the last step, all alike, 1/1":        {usual(), 7, 1, 1, 7},
		"equal flows, together just enough":    {bundle(0, scenario(1, 4), scenario(1, 9), scenario(1, 4)), 0, 2, 3, 4},
		"equal flows, together not enough":     {bundle(0, scenario(1, 4), scenario(1, 9), scenario(1, 4)), 0, 6667, all, 9},
		"weights that differ most, by little":  {bundle(0, scenario(all, 9), scenario(1, 4)), 0, 1, all, 9},
		"weights that differ most, by nothing": {bundle(0, scenario(9999, 9), scenario(1, 4)), 0, 1, all, 4},
		"all that is permitted, 1/50":          {full, 5, 1, 50, 0},
		"all that is permitted, above 1/50":    {full, 1004, 201, all, most},
		"all that is permitted, 1/1":           {full, 1004, all, all, most},
	} {
		expectQuantile(t, name, c.b, c.time, c.num, c.den, c.want, api.OK)
	}
}

// P10.2
func TestMeanAndExceedsOfNamedCases(t *testing.T) {
	const most, all = api.MaxFlow, api.MaxWeight
	full := great(mostScenarios, mostFlows, all, most)
	for name, c := range map[string]struct {
		b                                  api.Bundle
		time, mean, flow, exceeding, total int
	}{
		"the chapter's example":             {bundle(0, scenario(1, 10), scenario(3, 20)), 0, 17, 10, 3, 4},
		"the example, one flow less":        {bundle(0, scenario(1, 10), scenario(3, 20)), 0, 17, 9, 4, 4},
		"the example, one flow less than 2": {bundle(0, scenario(1, 10), scenario(3, 20)), 0, 17, 19, 3, 4},
		"the example, the greatest flow":    {bundle(0, scenario(1, 10), scenario(3, 20)), 0, 17, 20, 0, 4},
		"the first step":                    {usual(), 5, 17, 15, 5, 10},
		"the second step":                   {usual(), 6, 32, 0, 8, 10},
		"the last step":                     {usual(), 7, 7, 6, 10, 10},
		"the last step, all equal":          {usual(), 7, 7, 7, 0, 10},
		"any flow is more than one below 0": {usual(), 6, 32, -1, 10, 10},
		"the least int":                     {usual(), 6, 32, math.MinInt, 10, 10},
		"the greatest int":                  {usual(), 6, 32, math.MaxInt, 0, 10},
		"a mean that is rounded down":       {bundle(0, scenario(1, 0), scenario(99, 1)), 0, 0, 0, 99, 100},
		"a mean that is whole":              {bundle(0, scenario(1, 3), scenario(2, 9)), 0, 7, 3, 2, 3},
		"all that is permitted":             {full, 1004, most, most - 1, mostScenarios * all, mostScenarios * all},
		"all that is permitted, not more":   {full, 5, most, most, 0, mostScenarios * all},
	} {
		expectMean(t, name, c.b, c.time, c.mean, api.OK)
		expectExceeds(t, name, c.b, c.time, c.flow, c.exceeding, c.total, api.OK)
	}
}

// someBundle returns a random valid bundle; often its flows, or its weights, are equal.
func someBundle(numbers *samples.Sequence) api.Bundle {
	weight := []int{1, 3, 20, api.MaxWeight}[numbers.Below(4)]
	flow := []int{3, 30, api.MaxFlow + 1}[numbers.Below(3)]
	b := api.Bundle{From: numbers.Below(6)}
	steps := 1 + numbers.Below(5)
	for range 1 + numbers.Below([]int{3, 8, mostScenarios}[numbers.Below(3)]) {
		s := api.Scenario{Weight: 1 + numbers.Below(weight)}
		for range steps {
			s.Flows = append(s.Flows, numbers.Below(flow))
		}
		b.Scenarios = append(b.Scenarios, s)
	}
	return b
}

// someFraction returns a random num and den.
func someFraction(numbers *samples.Sequence) (int, int) {
	den := 1 + numbers.Below([]int{5, 100, api.MaxWeight}[numbers.Below(3)])
	return 1 + numbers.Below(den), den
}

// weightWhere returns the sum of the weights of the scenarios whose flow at an index holds.
func weightWhere(b api.Bundle, index int, holds func(flow int) bool) int {
	sum := 0
	for _, s := range b.Scenarios {
		if holds(s.Flows[index]) {
			sum += s.Weight
		}
	}
	return sum
}

func always(int) bool { return true }

// searchedQuantile looks at all flows of a step for the least one that does what the definition asks for.
func searchedQuantile(b api.Bundle, index, num, den int) int {
	found := math.MaxInt
	for _, s := range b.Scenarios {
		x := s.Flows[index]
		if den*weightWhere(b, index, func(flow int) bool { return flow <= x }) >= num*weightWhere(b, index, always) {
			found = min(found, x)
		}
	}
	return found
}

// exactMean returns the mean of a step, with numbers of any length.
func exactMean(b api.Bundle, index int) int {
	sum := new(big.Int)
	for _, s := range b.Scenarios {
		sum.Add(sum, new(big.Int).Mul(big.NewInt(int64(s.Weight)), big.NewInt(int64(s.Flows[index]))))
	}
	return int(sum.Div(sum, big.NewInt(int64(weightWhere(b, index, always)))).Int64())
}

// P10.2 against its definitions, on each step that is covered and on those before and behind them.
func TestStepsOfRandomBundles(t *testing.T) {
	numbers := &samples.Sequence{}
	for range 3000 {
		b := someBundle(numbers)
		num, den := someFraction(numbers)
		steps := len(b.Scenarios[0].Flows)
		for index := range steps {
			time, flow := b.From+index, b.Scenarios[numbers.Below(len(b.Scenarios))].Flows[index]+numbers.Below(3)-1
			expectQuantile(t, "a random bundle", b, time, num, den, searchedQuantile(b, index, num, den), api.OK)
			expectMean(t, "a random bundle", b, time, exactMean(b, index), api.OK)
			exceeding := weightWhere(b, index, func(other int) bool { return other > flow })
			expectExceeds(t, "a random bundle", b, time, flow, exceeding, weightWhere(b, index, always), api.OK)
		}
		for _, time := range []int{b.From - 1, b.From + steps} {
			expectQuantile(t, "not covered", b, time, num, den, 0, api.ErrTime)
			expectMean(t, "not covered", b, time, 0, api.ErrTime)
			expectExceeds(t, "not covered", b, time, 0, 0, 0, api.ErrTime)
		}
		if t.Failed() {
			t.Fatalf("this was in %v", b)
		}
	}
}

// The consequences: quantiles do not fall, that of 1 / 1 is the greatest flow, and the mean lies between the least and the greatest flow.
func TestQuantilesDoNotFallAndTheMeanLiesBetweenTheFlows(t *testing.T) {
	numbers := &samples.Sequence{}
	for range 3000 {
		b := someBundle(numbers)
		index := numbers.Below(len(b.Scenarios[0].Flows))
		time := b.From + index
		least, greatest := math.MaxInt, math.MinInt
		for _, s := range b.Scenarios {
			least, greatest = min(least, s.Flows[index]), max(greatest, s.Flows[index])
		}
		expectQuantile(t, "1/1", b, time, 1, 1, greatest, api.OK)
		expectQuantile(t, "1/1, as 7/7", b, time, 7, 7, greatest, api.OK)
		num, den := someFraction(numbers)
		otherNum, otherDen := someFraction(numbers)
		if num*otherDen > otherNum*den {
			num, den, otherNum, otherDen = otherNum, otherDen, num, den
		}
		low, _ := forecast.Quantile(b, time, num, den)
		high, _ := forecast.Quantile(b, time, otherNum, otherDen)
		if low < least || low > high || high > greatest {
			t.Errorf("%v: the quantiles of step %d are %d (%d/%d) and %d (%d/%d)", b, time, low, num, den, high, otherNum, otherDen)
		}
		if mean, code := forecast.Mean(b, time); code != api.OK || mean < least || mean > greatest {
			t.Errorf("%v: the mean of step %d is %d, %d", b, time, mean, code)
		}
	}
}

// P10.3
func TestVolumesOfNamedCases(t *testing.T) {
	const all = mostFlows * api.MaxFlow
	full := great(mostScenarios, mostFlows, 1, api.MaxFlow)
	for name, c := range map[string]struct {
		b     api.Bundle
		steps int
		want  []int
		code  api.Errno
	}{
		"no steps":                       {usual(), 0, []int{0, 0, 0}, api.OK},
		"one step":                       {usual(), 1, []int{30, 10, 20}, api.OK},
		"two steps":                      {usual(), 2, []int{30, 50, 60}, api.OK},
		"all steps":                      {usual(), 3, []int{37, 57, 67}, api.OK},
		"a step too many":                {usual(), 4, nil, api.ErrRange},
		"a step below 0":                 {usual(), -1, nil, api.ErrRange},
		"one scenario":                   {bundle(9, scenario(4, 8)), 1, []int{8}, api.OK},
		"one scenario, a step too many":  {bundle(9, scenario(4, 8)), 2, nil, api.ErrRange},
		"all that is permitted":          {full, mostFlows, repeat(all, mostScenarios), api.OK},
		"all that is permitted, no step": {full, 0, repeat(0, mostScenarios), api.OK},
		"a step more than is permitted":  {full, mostFlows + 1, nil, api.ErrRange},
	} {
		expectVolumes(t, name, c.b, c.steps, c.want, c.code)
	}
}

// P10.3: each step more adds its flows.
func TestVolumesOfRandomBundlesAddUp(t *testing.T) {
	numbers := &samples.Sequence{}
	for range 1000 {
		b := someBundle(numbers)
		want := repeat(0, len(b.Scenarios))
		for step := range len(b.Scenarios[0].Flows) {
			expectVolumes(t, "a random bundle", b, step, want, api.OK)
			for i, s := range b.Scenarios {
				want[i] += s.Flows[step]
			}
		}
		expectVolumes(t, "all steps of a random bundle", b, len(b.Scenarios[0].Flows), want, api.OK)
	}
}

// P10.4
func TestWithdrawOfNamedCases(t *testing.T) {
	expectWithdrawn(t, "a bundle", usual(), withdrawn(usual()))
	expectWithdrawn(t, "a withdrawn one", withdrawn(usual()), withdrawn(usual()))
	expectWithdrawn(t, "a small one", bundle(0, scenario(1, 0)), withdrawn(bundle(0, scenario(1, 0))))
	full := great(mostScenarios, mostFlows, 3, 9)
	full.From = api.MaxTime
	expectWithdrawn(t, "all that is permitted", full, withdrawn(full))
}

// P10.4
func TestShiftOfNamedCases(t *testing.T) {
	second := bundle(6, scenario(2, 0, 7), scenario(5, 40, 7), scenario(3, 40, 7))
	third := bundle(7, scenario(2, 7), scenario(5, 7), scenario(3, 7))
	late := bundle(api.MaxTime, scenario(1, 4, 5, 6))
	for name, c := range map[string]struct {
		b    api.Bundle
		time int
		want api.Bundle
		code api.Errno
	}{
		"to its first step":             {usual(), 5, usual(), api.OK},
		"to its second step":            {usual(), 6, second, api.OK},
		"to its last step":              {usual(), 7, third, api.OK},
		"a withdrawn one to its first":  {withdrawn(usual()), 5, withdrawn(usual()), api.OK},
		"a withdrawn one to its second": {withdrawn(usual()), 6, withdrawn(second), api.OK},
		"a withdrawn one to its last":   {withdrawn(usual()), 7, withdrawn(third), api.OK},
		"a shifted one":                 {second, 7, third, api.OK},
		"before it":                     {usual(), 4, api.Bundle{}, api.ErrTime},
		"behind it":                     {usual(), 8, api.Bundle{}, api.ErrTime},
		"a shifted one back":            {second, 5, api.Bundle{}, api.ErrTime},
		"a withdrawn one before it":     {withdrawn(usual()), 4, api.Bundle{}, api.ErrTime},
		"a withdrawn one behind it":     {withdrawn(usual()), 8, api.Bundle{}, api.ErrTime},
		"the greatest From":             {late, api.MaxTime, late, api.OK},
		// The chapter names no error for a step that is covered, though the step is no From of a valid bundle.
		"beyond the greatest From": {late, api.MaxTime + 2, bundle(api.MaxTime+2, scenario(1, 6)), api.OK},
	} {
		expectShift(t, name, c.b, c.time, c.want, c.code)
	}
}

// P10.4: what is said of a step, and of the sums behind it, stays when a bundle is shifted.
func TestShiftedBundlesSayTheSame(t *testing.T) {
	numbers := &samples.Sequence{}
	for range 1000 {
		b := someBundle(numbers)
		steps := len(b.Scenarios[0].Flows)
		before := numbers.Below(steps)
		shifted, code := forecast.Shift(b, b.From+before)
		if code != api.OK || shifted.From != b.From+before || forecast.Check(shifted) != api.OK {
			t.Fatalf("Shift of %v to step %d = %v, %d", b, b.From+before, shifted, code)
		}
		for index := before; index < steps; index++ {
			expectMean(t, "shifted", shifted, b.From+index, exactMean(b, index), api.OK)
		}
		for i, s := range b.Scenarios {
			if !sameScenarios(shifted.Scenarios[i], scenario(s.Weight, s.Flows[before:]...)) {
				t.Errorf("Shift of %v by %d steps = %v", b, before, shifted)
			}
		}
		expectMean(t, "shifted, the step before", shifted, shifted.From-1, 0, api.ErrTime)
		expectMean(t, "shifted, the step behind", shifted, b.From+steps, 0, api.ErrTime)
	}
}

// P10.4
func TestLatestOfNamedCases(t *testing.T) {
	early, late := bundle(2, scenario(1, 4, 5)), bundle(api.MaxTime, scenario(1, 4, 5))
	invalid := bundle(5, scenario(1, 4, 5), scenario(0, 4, 5))
	for name, c := range map[string]struct {
		l          []api.Bundle
		time, want int
		found      bool
	}{
		"no bundles":                        {nil, 5, 0, false},
		"no bundles, an empty slice":        {[]api.Bundle{}, 5, 0, false},
		"one, the step before":              {[]api.Bundle{usual()}, 4, 0, false},
		"one, its first step":               {[]api.Bundle{usual()}, 5, 0, true},
		"one, its last step":                {[]api.Bundle{usual()}, 7, 0, true},
		"one, the step behind":              {[]api.Bundle{usual()}, 8, 0, false},
		"the last of several":               {[]api.Bundle{usual(), usual(), usual()}, 6, 2, true},
		"the last one does not cover it":    {[]api.Bundle{usual(), usual(), early}, 6, 1, true},
		"the first one covers it":           {[]api.Bundle{early, usual(), usual()}, 3, 0, true},
		"none covers it":                    {[]api.Bundle{usual(), early}, 4, 0, false},
		"the last one is withdrawn":         {[]api.Bundle{usual(), withdrawn(usual())}, 6, 0, true},
		"the one before is withdrawn":       {[]api.Bundle{withdrawn(usual()), usual()}, 6, 1, true},
		"all are withdrawn":                 {[]api.Bundle{withdrawn(usual()), withdrawn(usual())}, 6, 0, false},
		"the last one is not valid":         {[]api.Bundle{usual(), invalid}, 6, 0, true},
		"the last one is the zero value":    {[]api.Bundle{usual(), {}}, 6, 0, true},
		"all are invalid":                   {[]api.Bundle{invalid, {}, {From: 5}, {From: math.MinInt}}, 5, 0, false},
		"one behind many that are not":      {[]api.Bundle{{}, invalid, withdrawn(usual()), early, usual(), {}, withdrawn(early)}, 6, 4, true},
		"the greatest From":                 {[]api.Bundle{usual(), late}, api.MaxTime, 1, true},
		"beyond the greatest From":          {[]api.Bundle{usual(), late}, api.MaxTime + 1, 1, true},
		"behind the greatest From":          {[]api.Bundle{usual(), late}, api.MaxTime + 2, 0, false},
		"the least int":                     {[]api.Bundle{usual(), late, {From: math.MinInt, Scenarios: early.Scenarios}}, math.MinInt, 0, false},
		"the greatest int":                  {[]api.Bundle{usual(), late, {From: math.MaxInt, Scenarios: early.Scenarios}}, math.MaxInt, 0, false},
		"a From below 0 that would do":      {[]api.Bundle{{From: -1, Scenarios: early.Scenarios}}, 0, 0, false},
		"a From too great that would do":    {[]api.Bundle{{From: api.MaxTime + 1, Scenarios: early.Scenarios}}, api.MaxTime + 1, 0, false},
		"as many scenarios as permitted":    {[]api.Bundle{great(mostScenarios, 2, 1, 9)}, 6, 0, true},
		"one scenario more":                 {[]api.Bundle{great(mostScenarios+1, 2, 1, 9)}, 6, 0, false},
		"as many flows as permitted":        {[]api.Bundle{great(1, mostFlows, 1, 9)}, 1004, 0, true},
		"one flow more":                     {[]api.Bundle{great(1, mostFlows+1, 1, 9)}, 1004, 0, false},
		"more bundles than a list may have": {slices.Repeat([]api.Bundle{usual()}, api.MaxList+7), 6, api.MaxList + 6, true},
	} {
		expectLatest(t, name, c.l, c.time, c.want, c.found)
	}
}

// P10.4 against its definition.
func TestLatestOfRandomBundles(t *testing.T) {
	numbers := &samples.Sequence{}
	for range 2000 {
		var l []api.Bundle
		for range numbers.Below(6) {
			b := someBundle(numbers)
			b.Withdrawn = numbers.Below(4) == 0
			if numbers.Below(5) == 0 {
				b.Scenarios[0].Weight = 0
			}
			l = append(l, b)
		}
		for time := -1; time < 12; time++ {
			want, found := 0, false
			for i, b := range l {
				covers := b.From <= time && time < b.From+len(b.Scenarios[0].Flows)
				if forecast.Check(b) == api.OK && !b.Withdrawn && covers {
					want, found = i, true
				}
			}
			expectLatest(t, "random bundles", l, time, want, found)
		}
	}
}

// R2: what is passed in stays as it is, also around it where a slice has room.
func TestArgumentsAreNotChanged(t *testing.T) {
	numbers := &samples.Sequence{}
	for range 300 {
		b := someBundle(numbers)
		var wholes [][]int
		for i, s := range b.Scenarios {
			part, whole := samples.Window(s.Flows, 77)
			b.Scenarios[i].Flows, wholes = part, append(wholes, whole)
		}
		other := scenario(9, 99)
		part, whole := samples.Window(b.Scenarios, other)
		b.Scenarios = part
		list, wholeList := samples.Window([]api.Bundle{b, withdrawn(b), b}, bundle(8, other))
		before, beforeScenarios, beforeList := copyOf(b), copyOf(bundle(0, whole...)), slices.Clone(wholeList)
		beforeFlows := slices.Concat(wholes...)
		for _, b := range list {
			for time := b.From - 1; time < b.From+7; time++ {
				forecast.Check(b)
				answers(b, question{time: time, num: 1, den: 3, steps: time - b.From, flow: 9})
				forecast.Latest(list, time)
			}
		}
		if !same(b, before) || !same(bundle(0, whole...), beforeScenarios) || !slices.EqualFunc(wholeList, beforeList, same) || !slices.Equal(slices.Concat(wholes...), beforeFlows) {
			t.Fatalf("%v: an argument was changed", before)
		}
	}
}

// R2, R4: results are new memory, each its own, also where a bundle has the same flows for several scenarios, and nothing is kept of arguments that are changed afterwards.
func TestResultsAreNewMemory(t *testing.T) {
	shared := []int{4, 5, 6}
	b := bundle(5, scenario(1, shared...), scenario(2, shared...))
	want := copyOf(b)
	for name, copied := range map[string]func() api.Bundle{
		"Withdraw": func() api.Bundle { gone, _ := forecast.Withdraw(b); gone.Withdrawn = false; return gone },
		"Shift":    func() api.Bundle { shifted, _ := forecast.Shift(b, 5); return shifted },
	} {
		one, other := copied(), copied()
		one.Scenarios[0].Flows[0] = 90
		if one.Scenarios[1].Flows[0] != 4 || !same(other, want) || !same(b, want) {
			t.Errorf("%s: %v, %v, %v: flows are shared", name, one, other, b)
		}
		one.Scenarios[1].Weight = 91
		_ = append(one.Scenarios[0].Flows, 92)
		shared[1], b.Scenarios[0].Weight = 93, 94
		if !same(other, want) || !slices.Equal(one.Scenarios[1].Flows, []int{4, 5, 6}) {
			t.Errorf("%s: %v, %v: scenarios are shared", name, one, other)
		}
		shared[1], b.Scenarios[0].Weight = 5, 1
	}
	volumes, _ := forecast.Volumes(b, 1)
	again, _ := forecast.Volumes(b, 1)
	again[0], shared[0] = 95, 96
	expectVolumes(t, "a changed argument", b, 1, []int{96, 96}, api.OK)
	if !slices.Equal(volumes, []int{4, 4}) {
		t.Error("Volumes:", volumes)
	}
	expectQuantile(t, "a changed argument", b, 5, 1, 1, 96, api.OK)
	expectMean(t, "a changed argument", b, 5, 96, api.OK)
}
