package quality_test

import (
	"math"
	"slices"
	"testing"

	"hydrocascade/api"
	"hydrocascade/quality"
	"hydrocascade/samples"
)

// The verdicts are short, because the tables consist of them.
const (
	good    = api.VerdictGood
	missing = api.VerdictMissing
	beyond  = api.VerdictRange
	jump    = api.VerdictJump
	stuck   = api.VerdictStuck
)

// y and n tell which values of a table are good.
const (
	y = true
	n = false
)

func ok(value int) api.Reading    { return api.Reading{Value: value} }
func ice(value int) api.Reading   { return api.Reading{Value: value, Flag: api.FlagIce} }
func fault(value int) api.Reading { return api.Reading{Value: value, Flag: api.FlagFault} }

// series returns readings without a fault.
func series(values ...int) []api.Reading {
	l := make([]api.Reading, len(values))
	for i, value := range values {
		l[i] = ok(value)
	}
	return l
}

// Numbers that are flows, at the ends of their range and within, and numbers that are not.
var (
	flows    = []int{0, 1, 50, api.MaxList, api.MaxFlow - 1, api.MaxFlow}
	notFlows = []int{math.MinInt, -api.MaxFlow, -1, api.MaxFlow + 1, api.MaxVolume, math.MaxInt}
)

// Numbers that Stuck may be, and numbers that it may not be.
var (
	stucks    = []int{0, 2, 3, api.MaxList - 1, api.MaxList}
	notStucks = []int{math.MinInt, -2, -1, 1, api.MaxList + 1, math.MaxInt}
)

// usual are checks that all verdicts can come from.
func usual() api.Checks { return api.Checks{Least: 10, Most: 100, Jump: 5, Stuck: 3} }

// open are checks that permit everything.
func open() api.Checks { return api.Checks{Most: api.MaxFlow, Jump: api.MaxFlow} }

// eachChecks calls a function for checks with all permitted and refused numbers, and whether they are valid.
func eachChecks(do func(c api.Checks, valid bool)) {
	for _, least := range slices.Concat(flows, notFlows) {
		for _, most := range slices.Concat(flows, notFlows) {
			for _, jump := range slices.Concat(flows, notFlows) {
				for _, stuck := range slices.Concat(stucks, notStucks) {
					valid := slices.Contains(flows, least) && slices.Contains(flows, most) && slices.Contains(flows, jump) && slices.Contains(stucks, stuck) && least <= most
					do(api.Checks{Least: least, Most: most, Jump: jump, Stuck: stuck}, valid)
				}
			}
		}
	}
}

// refusedChecks are checks that are not valid, each for one reason.
func refusedChecks() map[string]api.Checks {
	return map[string]api.Checks{
		"Least below 0":         {Least: -1, Most: 100, Jump: 5, Stuck: 3},
		"Least is too great":    {Least: api.MaxFlow + 1, Most: api.MaxFlow + 1, Jump: 5, Stuck: 3},
		"Most below 0":          {Least: -1, Most: -1, Jump: 5, Stuck: 3},
		"Most is too great":     {Least: 10, Most: api.MaxFlow + 1, Jump: 5, Stuck: 3},
		"Least is beyond Most":  {Least: 51, Most: 50, Jump: 5, Stuck: 3},
		"Jump below 0":          {Least: 10, Most: 100, Jump: -1, Stuck: 3},
		"Jump is too great":     {Least: 10, Most: 100, Jump: api.MaxFlow + 1, Stuck: 3},
		"Stuck below 0":         {Least: 10, Most: 100, Jump: 5, Stuck: -1},
		"Stuck is 1":            {Least: 10, Most: 100, Jump: 5, Stuck: 1},
		"Stuck is too great":    {Least: 10, Most: 100, Jump: 5, Stuck: api.MaxList + 1},
		"nothing is in a range": {Least: -1, Most: -2, Jump: -3, Stuck: -4},
	}
}

// wrongReading is a reading with an error.
type wrongReading struct {
	reading api.Reading
	code    api.Errno
}

// wrongReadings are readings with each of the errors, and with several.
func wrongReadings() []wrongReading {
	return []wrongReading{
		{api.Reading{Gauge: -1}, api.ErrRange},
		{api.Reading{Gauge: 256}, api.ErrRange},
		{api.Reading{Time: -1}, api.ErrTime},
		{api.Reading{Time: api.MaxTime + 1}, api.ErrTime},
		{ok(-1), api.ErrRange},
		{ok(api.MaxFlow + 1), api.ErrRange},
		{ice(math.MinInt), api.ErrRange},
		{fault(-1), api.ErrRange},
		{fault(math.MaxInt), api.ErrRange},
		{api.Reading{Value: 50, Flag: -1}, api.ErrKind},
		{api.Reading{Value: 50, Flag: api.FlagFault + 1}, api.ErrKind},
		{api.Reading{Gauge: -1, Time: -1, Value: -1, Flag: -1}, api.ErrRange},
		{api.Reading{Time: -1, Value: -1, Flag: -1}, api.ErrTime},
		{api.Reading{Value: -1, Flag: -1}, api.ErrRange},
		{api.Reading{Time: -1, Flag: api.FlagFault}, api.ErrTime},
	}
}

func expectVerdicts(t *testing.T, name string, c api.Checks, l []api.Reading, want []int, code api.Errno) {
	t.Helper()
	if verdicts, gotCode := quality.Verdicts(c, l); !slices.Equal(verdicts, want) || gotCode != code {
		t.Errorf("%s: Verdicts = %v, %d; want %v, %d", name, verdicts, gotCode, want, code)
	}
}

func expectVote(t *testing.T, name string, values []int, good []bool, want int, wantThere bool) {
	t.Helper()
	if vote, there := quality.Vote(values, good); vote != want || there != wantThere {
		t.Errorf("%s: Vote of %v, %v = %d, %t; want %d, %t", name, values, good, vote, there, want, wantThere)
	}
}

// combined is what Combine returns.
type combined struct {
	votes []int
	there []bool
	odd   []int
	code  api.Errno
}

func expectCombine(t *testing.T, name string, c []api.Checks, l [][]api.Reading, most int, want combined) {
	t.Helper()
	votes, there, odd, code := quality.Combine(c, l, most)
	if !slices.Equal(votes, want.votes) || !slices.Equal(there, want.there) || !slices.Equal(odd, want.odd) || code != want.code {
		t.Errorf("%s: Combine = %v, %v, %v, %d; want %v", name, votes, there, odd, code, want)
	}
}

func expectFill(t *testing.T, name string, values []int, good []bool, last int, want []int, code api.Errno) {
	t.Helper()
	if filled, gotCode := quality.Fill(values, good, last); !slices.Equal(filled, want) || gotCode != code {
		t.Errorf("%s: Fill of %v, %v, %d = %v, %d; want %v, %d", name, values, good, last, filled, gotCode, want, code)
	}
}

func expectDrift(t *testing.T, name string, a, b []int, good []bool, want int, wantThere bool, code api.Errno) {
	t.Helper()
	if drift, there, gotCode := quality.Drift(a, b, good); drift != want || there != wantThere || gotCode != code {
		t.Errorf("%s: Drift = %d, %t, %d; want %d, %t, %d", name, drift, there, gotCode, want, wantThere, code)
	}
}

// P8.1: each field at the ends of its range and beyond, with all others right and wrong.
func TestCheckPermitsValidChecksAlone(t *testing.T) {
	eachChecks(func(c api.Checks, valid bool) {
		want := api.ErrRange
		if valid {
			want = api.OK
		}
		if code := quality.Check(c); code != want {
			t.Errorf("%v: error %d; want %d", c, code, want)
		}
		expectVerdicts(t, "no readings", c, nil, nil, want)
	})
	for name, c := range refusedChecks() {
		if code := quality.Check(c); code != api.ErrRange {
			t.Errorf("%s: error %d", name, code)
		}
	}
}

// P8.1, R3, R5: checks that are not valid decide, whatever the readings.
func TestInvalidChecksAreRefusedFirst(t *testing.T) {
	for name, c := range refusedChecks() {
		expectVerdicts(t, name, c, []api.Reading{}, nil, api.ErrRange)
		expectVerdicts(t, name, c, series(20, 50), nil, api.ErrRange)
		for _, w := range wrongReadings() {
			expectVerdicts(t, name, c, []api.Reading{w.reading}, nil, api.ErrRange)
		}
	}
}

// P8.1, R3, R5: the first reading that has an error decides, wherever it stands.
func TestInvalidReadingsAreRefused(t *testing.T) {
	right := []api.Reading{ok(20), ice(20), fault(20), ok(200), ok(99)}
	for _, c := range []api.Checks{usual(), open(), {}} {
		for _, w := range wrongReadings() {
			for at := range len(right) + 1 {
				expectVerdicts(t, "one wrong", c, slices.Insert(slices.Clone(right), at, w.reading), nil, w.code)
			}
			for _, later := range wrongReadings() {
				expectVerdicts(t, "two wrong", c, []api.Reading{ok(20), w.reading, fault(20), later.reading}, nil, w.code)
			}
		}
	}
}

// verdictCase is readings, and their verdicts.
type verdictCase struct {
	checks api.Checks
	list   []api.Reading
	want   []int
}

// verdictCases are readings on both sides of what each check permits.
func verdictCases() map[string]verdictCase {
	c := usual()
	return map[string]verdictCase{
		"no readings":                            {c, nil, nil},
		"an empty slice":                         {c, []api.Reading{}, nil},
		"a single one":                           {c, series(50), []int{good}},
		"faults":                                 {c, []api.Reading{fault(50), fault(0), fault(1000)}, []int{missing, missing, missing}},
		"ice is no fault":                        {c, []api.Reading{ice(50), ice(54), ice(9)}, []int{good, good, beyond}},
		"the ends of the range":                  {c, series(10, 9), []int{good, beyond}},
		"the greatest of the range":              {c, series(100, 101), []int{good, beyond}},
		"a range of one number":                  {api.Checks{Least: 7, Most: 7, Jump: 5}, series(7, 6, 8, 7), []int{good, beyond, beyond, good}},
		"all numbers 0":                          {api.Checks{}, series(0, 1, 0), []int{good, beyond, good}},
		"the greatest flow":                      {open(), series(0, api.MaxFlow, 0, api.MaxFlow-1), []int{good, good, good, good}},
		"steps up that are no jump, and one":     {c, series(20, 25, 30, 36), []int{good, good, good, jump}},
		"steps down that are no jump, and one":   {c, series(36, 31, 26, 20), []int{good, good, good, jump}},
		"no jump is permitted":                   {api.Checks{Most: 100}, series(20, 21, 19, 20), []int{good, jump, jump, good}},
		"the first jumps from nothing":           {c, series(99, 99), []int{good, good}},
		"a jump that stays is believed later":    {c, series(20, 40, 40, 35, 40), []int{good, jump, jump, good, good}},
		"what jumped is not jumped from":         {c, series(20, 30, 31, 25), []int{good, jump, jump, good}},
		"a jump over a fault":                    {c, []api.Reading{ok(20), fault(0), ok(30), fault(30), ok(41)}, []int{good, missing, good, missing, jump}},
		"a jump over a value out of range":       {c, series(20, 9, 30, 101, 41), []int{good, beyond, good, beyond, jump}},
		"a fault is not jumped from":             {c, []api.Reading{fault(20), ok(90), fault(20), ok(94)}, []int{missing, good, missing, good}},
		"what is out of range is not jumped to":  {c, series(5, 90, 200, 91), []int{beyond, good, beyond, good}},
		"steps of a stuck one count":             {c, series(20, 20, 20, 20, 36), []int{good, good, stuck, stuck, jump}},
		"behind a stuck one":                     {c, series(20, 20, 20, 30, 26, 42), []int{good, good, stuck, good, good, jump}},
		"neither times nor gauges matter":        {c, []api.Reading{{Gauge: 1, Time: 90, Value: 20}, {Gauge: 2, Time: 3, Value: 25}, {Gauge: 255, Time: api.MaxTime, Value: 31}}, []int{good, good, jump}},
		"three equal ones":                       {c, series(20, 20, 20), []int{good, good, stuck}},
		"four equal ones":                        {c, series(20, 20, 20, 20), []int{good, good, stuck, stuck}},
		"two pairs":                              {c, series(20, 20, 21, 21, 20, 20), []int{good, good, good, good, good, good}},
		"two equal ones are enough":              {api.Checks{Most: 100, Jump: 100, Stuck: 2}, series(5, 5, 6, 5, 5), []int{good, stuck, good, good, stuck}},
		"equal ones are not checked":             {open(), series(5, 5, 5, 5, 5), []int{good, good, good, good, good}},
		"a fault between equal ones":             {c, []api.Reading{ok(20), ok(20), fault(20), ok(20), ok(20), ok(20)}, []int{good, good, missing, good, good, stuck}},
		"faults are not equal":                   {c, []api.Reading{fault(20), fault(20), ok(20), fault(20), ok(20), ok(20), ok(20)}, []int{missing, missing, good, missing, good, good, stuck}},
		"a fault's 0 is no value":                {api.Checks{Most: 100, Jump: 100, Stuck: 2}, []api.Reading{fault(0), ok(0), ok(0)}, []int{missing, good, stuck}},
		"ice between equal ones":                 {c, []api.Reading{ok(20), ice(20), ok(20), ice(20)}, []int{good, good, stuck, stuck}},
		"one out of range is not also stuck":     {c, series(200, 200, 200, 200), []int{beyond, beyond, beyond, beyond}},
		"one that jumped is not also stuck":      {c, series(20, 60, 60, 60, 60), []int{good, jump, jump, jump, jump}},
		"those that jumped count as equal":       {c, series(20, 40, 40, 40, 40), []int{good, jump, jump, jump, stuck}},
		"a fault out of range is missing":        {c, []api.Reading{ok(20), fault(200), fault(0)}, []int{good, missing, missing}},
		"one out of range does not also jump":    {c, series(20, 101, 9), []int{good, beyond, beyond}},
		"equal ones at the beginning of a list":  {api.Checks{Most: 100, Jump: 100, Stuck: 4}, series(0, 0, 0, 0), []int{good, good, good, stuck}},
		"fewer readings than would be stuck":     {api.Checks{Most: 100, Jump: 100, Stuck: api.MaxList}, series(0, 0, 0, 0), []int{good, good, good, good}},
		"the first verdict that applies, of all": {api.Checks{Least: 10, Most: 100, Jump: 0, Stuck: 2}, []api.Reading{ok(20), ok(120), fault(120), ok(120), ok(21), ok(21), ok(20), ok(20)}, []int{good, beyond, missing, beyond, jump, jump, good, stuck}},
	}
}

// P8.1
func TestVerdictsOfNamedCases(t *testing.T) {
	for name, c := range verdictCases() {
		expectVerdicts(t, name, c.checks, c.list, c.want, api.OK)
	}
}

// verdictOf is the verdict on a reading by the promise, from the verdicts on those before.
func verdictOf(c api.Checks, l []api.Reading, at int, before []int) int {
	r := l[at]
	if r.Flag == api.FlagFault {
		return missing
	}
	if r.Value < c.Least || c.Most < r.Value {
		return beyond
	}
	for i := at - 1; i >= 0; i-- {
		if before[i] == good {
			if r.Value-l[i].Value > c.Jump*(at-i) || l[i].Value-r.Value > c.Jump*(at-i) {
				return jump
			}
			break
		}
	}
	if c.Stuck > 0 && at >= c.Stuck-1 {
		equal := func(other api.Reading) bool { return other.Flag != api.FlagFault && other.Value == r.Value }
		if !slices.ContainsFunc(l[at-c.Stuck+1:at], func(other api.Reading) bool { return !equal(other) }) {
			return stuck
		}
	}
	return good
}

// verdictsOf are the verdicts by the promise.
func verdictsOf(c api.Checks, l []api.Reading) []int {
	var verdicts []int
	for at := range l {
		verdicts = append(verdicts, verdictOf(c, l, at, verdicts))
	}
	return verdicts
}

// someChecks returns random checks that are valid, for small readings.
func someChecks(numbers *samples.Sequence) api.Checks {
	least := numbers.Below(4)
	c := api.Checks{Least: least, Most: least + numbers.Below(9), Jump: numbers.Below(5), Stuck: numbers.Below(5)}
	if c.Stuck == 1 {
		c.Stuck = 0
	}
	return c
}

// someReadings returns so many random readings with small values, often the same ones.
func someReadings(numbers *samples.Sequence, count int) []api.Reading {
	l := make([]api.Reading, count)
	for i := range l {
		l[i] = api.Reading{Gauge: numbers.Below(3), Time: numbers.Below(200), Value: numbers.Below(12)}
		if i > 0 && numbers.Below(2) == 0 {
			l[i].Value = l[i-1].Value
		}
		if numbers.Below(6) == 0 {
			l[i].Flag = 1 + numbers.Below(2)
		}
	}
	return l
}

// P8.1 against its definition.
func TestVerdictsOfRandomReadings(t *testing.T) {
	numbers := &samples.Sequence{}
	for range 20000 {
		c, l := someChecks(numbers), someReadings(numbers, numbers.Below(25))
		expectVerdicts(t, "random readings", c, l, verdictsOf(c, l), api.OK)
		if t.Failed() {
			t.Fatalf("this was in %v, %v", c, l)
		}
	}
}

// P8.1: a list may be longer than those of gauge, and the greatest Stuck and jumps over many readings count.
func TestVerdictsOfLongLists(t *testing.T) {
	const count = 2*api.MaxList + 1
	equal, want := make([]api.Reading, count), slices.Repeat([]int{good}, count)
	for i := api.MaxList - 1; i < count; i++ {
		want[i] = stuck
	}
	expectVerdicts(t, "the greatest Stuck", api.Checks{Most: 9, Jump: 9, Stuck: api.MaxList}, equal, want, api.OK)

	over, want := slices.Repeat([]api.Reading{fault(0)}, count), slices.Repeat([]int{missing}, count)
	const end = count - 1
	over[0], over[end], want[0] = ok(0), ok(end), good
	want[end] = good
	expectVerdicts(t, "no jump over all readings", api.Checks{Most: api.MaxFlow, Jump: 1}, over, want, api.OK)
	over[end], want[end] = ok(end+1), jump
	expectVerdicts(t, "a jump over all readings", api.Checks{Most: api.MaxFlow, Jump: 1}, over, want, api.OK)
	over[end], want[end] = ok(api.MaxFlow), good
	expectVerdicts(t, "the greatest jump over all readings", open(), over, want, api.OK)
	over[end].Flag = 9
	expectVerdicts(t, "the last is wrong", open(), over, nil, api.ErrKind)
}

// P8.2
func TestVoteOfNamedCases(t *testing.T) {
	for name, c := range map[string]struct {
		values []int
		good   []bool
		want   int
		there  bool
	}{
		"the chapter's example":          {[]int{5, 9, 7, 100}, []bool{y, y, y, y}, 7, true},
		"one":                            {[]int{5}, []bool{y}, 5, true},
		"one that is not good":           {[]int{5}, []bool{n}, 0, false},
		"none is good":                   {[]int{5, 6, 7}, []bool{n, n, n}, 0, false},
		"a vote of 0":                    {[]int{0, 0, 9}, []bool{y, y, y}, 0, true},
		"two, the lower one":             {[]int{9, 5}, []bool{y, y}, 5, true},
		"three":                          {[]int{9, 5, 7}, []bool{y, y, y}, 7, true},
		"three, one of them not good":    {[]int{9, 5, 7}, []bool{y, n, y}, 7, true},
		"three, two of them not good":    {[]int{9, 5, 7}, []bool{y, n, n}, 9, true},
		"five":                           {[]int{3, 1, 5, 2, 4}, []bool{y, y, y, y, y}, 3, true},
		"six, the lower one":             {[]int{3, 1, 6, 5, 2, 4}, []bool{y, y, y, y, y, y}, 3, true},
		"equal ones":                     {[]int{7, 1, 7, 9, 7}, []bool{y, y, y, y, y}, 7, true},
		"half of them equal":             {[]int{7, 1, 7, 2}, []bool{y, y, y, y}, 2, true},
		"numbers below 0":                {[]int{-5, -9, 5}, []bool{y, y, y}, -5, true},
		"the least and greatest numbers": {[]int{math.MaxInt, math.MinInt, 0, math.MaxInt}, []bool{y, y, y, y}, 0, true},
		"the least number":               {[]int{math.MaxInt, math.MinInt}, []bool{y, y}, math.MinInt, true},
		"the greatest number":            {[]int{math.MaxInt}, []bool{y}, math.MaxInt, true},
		"no values":                      {nil, nil, 0, false},
		"empty slices":                   {[]int{}, []bool{}, 0, false},
		"a value without a word on it":   {[]int{5, 6}, []bool{y}, 0, false},
		"a word without a value":         {[]int{5}, []bool{y, y}, 0, false},
		"values alone":                   {[]int{5}, nil, 0, false},
		"words alone":                    {nil, []bool{y}, 0, false},
	} {
		expectVote(t, name, c.values, c.good, c.want, c.there)
	}
}

// someValues returns so many random values below a number, and which are good.
func someValues(numbers *samples.Sequence, count, below int) ([]int, []bool) {
	values, good := make([]int, count), make([]bool, count)
	share := 1 + numbers.Below(5)
	for i := range values {
		values[i], good[i] = numbers.Below(below), numbers.Below(share) == 0
	}
	return values, good
}

// goodOf returns the values that are good, in their order.
func goodOf(values []int, good []bool) []int {
	var believed []int
	for i, value := range values {
		if good[i] {
			believed = append(believed, value)
		}
	}
	return believed
}

// count returns how many numbers have a property.
func count(numbers []int, has func(number int) bool) int {
	found := 0
	for _, number := range numbers {
		if has(number) {
			found++
		}
	}
	return found
}

// P8.2 against its definition: as many values as its number stand before the vote, when they ascend. Consequences: the vote lies between the least and the greatest good value, and is that which more than half of them have.
func TestVoteOfRandomValues(t *testing.T) {
	numbers := &samples.Sequence{}
	majorities := 0
	for range 20000 {
		values, good := someValues(numbers, numbers.Below(12), 1+numbers.Below(9))
		believed := goodOf(values, good)
		vote, there := quality.Vote(values, good)
		if len(believed) == 0 {
			expectVote(t, "none is good", values, good, 0, false)
			continue
		}
		less := count(believed, func(number int) bool { return number < vote })
		atMost := count(believed, func(number int) bool { return number <= vote })
		place := (len(believed) - 1) / 2
		if !there || less > place || atMost <= place || !slices.Contains(believed, vote) {
			t.Fatalf("Vote of %v, %v = %d, %t", values, good, vote, there)
		}
		if vote < slices.Min(believed) || vote > slices.Max(believed) {
			t.Errorf("Vote of %v, %v = %d is not between the good values", values, good, vote)
		}
		for _, value := range believed {
			if 2*count(believed, func(number int) bool { return number == value }) > len(believed) {
				majorities++
				expectVote(t, "a majority", values, good, value, true)
			}
		}
	}
	if majorities < 1000 {
		t.Errorf("%d values were those of a majority", majorities)
	}
}

// P8.2: there is no limit to their number.
func TestVoteOfManyValues(t *testing.T) {
	const count = 3*api.MaxList + 1
	values, good := make([]int, count), slices.Repeat([]bool{true}, count)
	for i := range values {
		values[i] = (i * 5) % count
	}
	expectVote(t, "many values", values, good, (count-1)/2, true)
}

// P8.3
func TestCombineOfNamedCases(t *testing.T) {
	c := open()
	for name, x := range map[string]struct {
		checks []api.Checks
		lists  [][]api.Reading
		most   int
		want   combined
	}{
		"no gauges":                   {nil, nil, 0, combined{}},
		"no gauges, empty slices":     {[]api.Checks{}, [][]api.Reading{}, 0, combined{}},
		"no steps":                    {[]api.Checks{c, c}, [][]api.Reading{nil, {}}, 0, combined{}},
		"one gauge":                   {[]api.Checks{c}, [][]api.Reading{{ok(5), fault(6), ice(7)}}, 0, combined{[]int{5, 0, 7}, []bool{y, n, y}, []int{0, 0, 0}, api.OK}},
		"an outlier is outvoted":      {[]api.Checks{c, c, c}, [][]api.Reading{series(10, 10), series(12, 99), series(90, 11)}, 2, combined{[]int{12, 11}, []bool{y, y}, []int{1, 1}, api.OK}},
		"two, the lower one":          {[]api.Checks{c, c}, [][]api.Reading{series(10, 20), series(15, 12)}, 5, combined{[]int{10, 12}, []bool{y, y}, []int{0, 1}, api.OK}},
		"most is permitted":           {[]api.Checks{c, c, c}, [][]api.Reading{series(50, 50), series(40, 39), series(60, 61)}, 10, combined{[]int{50, 50}, []bool{y, y}, []int{0, 2}, api.OK}},
		"a most of 0":                 {[]api.Checks{c, c, c}, [][]api.Reading{series(50, 50), series(49, 50), series(51, 50)}, 0, combined{[]int{50, 50}, []bool{y, y}, []int{2, 0}, api.OK}},
		"the greatest most":           {[]api.Checks{c, c}, [][]api.Reading{series(0), series(api.MaxFlow)}, math.MaxInt, combined{[]int{0}, []bool{y}, []int{0}, api.OK}},
		"the greatest difference":     {[]api.Checks{c, c}, [][]api.Reading{series(0, 0), series(api.MaxFlow, api.MaxFlow-1)}, api.MaxFlow - 1, combined{[]int{0, 0}, []bool{y, y}, []int{1, 0}, api.OK}},
		"a fault does not vote":       {[]api.Checks{c, c, c}, [][]api.Reading{{ok(10)}, {fault(90)}, {ok(11)}}, 0, combined{[]int{10}, []bool{y}, []int{1}, api.OK}},
		"all have faults":             {[]api.Checks{c, c}, [][]api.Reading{{fault(10), ok(10)}, {fault(90), fault(90)}}, 0, combined{[]int{0, 10}, []bool{n, y}, []int{0, 0}, api.OK}},
		"a vote of 0":                 {[]api.Checks{c, c}, [][]api.Reading{series(0), series(0)}, 0, combined{[]int{0}, []bool{y}, []int{0}, api.OK}},
		"each gauge has its checks":   {[]api.Checks{{Most: 50, Jump: 50}, {Least: 40, Most: 100, Jump: 50}}, [][]api.Reading{series(45, 30, 60), series(45, 30, 60)}, 0, combined{[]int{45, 30, 60}, []bool{y, y, y}, []int{0, 0, 0}, api.OK}},
		"each gauge has its verdicts": {[]api.Checks{usual(), usual(), c}, [][]api.Reading{series(20, 20, 20, 30), series(20, 30, 25, 41), series(70, 71, 72, 73)}, 10, combined{[]int{20, 20, 25, 30}, []bool{y, y, y, y}, []int{1, 1, 1, 1}, api.OK}},
	} {
		expectCombine(t, name, x.checks, x.lists, x.most, x.want)
	}
}

// combinedOf is what Combine returns by the promise, for valid checks and readings and a most from 0 on.
func combinedOf(c []api.Checks, l [][]api.Reading, most, steps int) combined {
	var want combined
	for step := range steps {
		var believed []int
		for i := range l {
			if verdictsOf(c[i], l[i])[step] == good {
				believed = append(believed, l[i][step].Value)
			}
		}
		vote, there := quality.Vote(believed, slices.Repeat([]bool{true}, len(believed)))
		want.votes, want.there = append(want.votes, vote), append(want.there, there)
		want.odd = append(want.odd, count(believed, func(value int) bool { return value-vote > most || vote-value > most }))
	}
	return want
}

// P8.3 against its definition.
func TestCombineOfRandomReadings(t *testing.T) {
	numbers := &samples.Sequence{}
	for range 5000 {
		c, l := make([]api.Checks, numbers.Below(6)), [][]api.Reading(nil)
		steps, most := numbers.Below(8), numbers.Below(5)
		for i := range c {
			c[i], l = someChecks(numbers), append(l, someReadings(numbers, steps))
		}
		if len(l) == 0 {
			steps = 0
		}
		expectCombine(t, "random readings", c, l, most, combinedOf(c, l, most, steps))
		if t.Failed() {
			t.Fatalf("this was in %v, %v, %d", c, l, most)
		}
	}
}

// P8.3: more gauges and more steps than a list of gauge may have.
func TestCombineOfMany(t *testing.T) {
	const many = api.MaxList + 1
	l := make([][]api.Reading, many)
	for i := range l {
		l[i] = series(i)
	}
	c := slices.Repeat([]api.Checks{open()}, many)
	expectCombine(t, "many gauges", c, l, 100, combined{[]int{many / 2}, []bool{y}, []int{many - 201}, api.OK})
	steps := [][]api.Reading{slices.Repeat(series(5), many), slices.Repeat(series(9), many)}
	want := combined{slices.Repeat([]int{5}, many), slices.Repeat([]bool{y}, many), slices.Repeat([]int{1}, many), api.OK}
	expectCombine(t, "many steps", c[:2], steps, 3, want)
}

// P8.3, R3, R5: each error, alone and with those that are named behind it.
func TestCombineRefusesInOrder(t *testing.T) {
	right, wrong := open(), api.Checks{Jump: -1}
	noFlag, noTime := api.Reading{Flag: 9}, api.Reading{Time: -1, Flag: 9}
	for _, x := range []struct {
		name   string
		checks []api.Checks
		lists  [][]api.Reading
		most   int
		code   api.Errno
	}{
		{"checks without a list", []api.Checks{right}, nil, 0, api.ErrForm},
		{"a list without checks", nil, [][]api.Reading{series(1)}, 0, api.ErrForm},
		{"an empty list without checks", nil, [][]api.Reading{nil}, 0, api.ErrForm},
		{"one list too few", []api.Checks{right, right}, [][]api.Reading{series(1)}, 0, api.ErrForm},
		{"one list too many", []api.Checks{right}, [][]api.Reading{series(1), series(1)}, 0, api.ErrForm},
		{"a shorter list", []api.Checks{right, right}, [][]api.Reading{series(1, 2), series(1)}, 0, api.ErrForm},
		{"a longer list", []api.Checks{right, right}, [][]api.Reading{series(1), series(1, 2)}, 0, api.ErrForm},
		{"the last of three is longer", []api.Checks{right, right, right}, [][]api.Reading{series(1), series(1), series(1, 2)}, 0, api.ErrForm},
		{"the first of three is empty", []api.Checks{right, right, right}, [][]api.Reading{nil, series(1), series(1)}, 0, api.ErrForm},
		{"a form, most, checks and readings", []api.Checks{wrong, right}, [][]api.Reading{{noFlag}, nil}, -1, api.ErrForm},
		{"a form, checks and readings", []api.Checks{wrong}, [][]api.Reading{{noTime}, {noTime}}, 0, api.ErrForm},
		{"most below 0", []api.Checks{right}, [][]api.Reading{series(1)}, -1, api.ErrRange},
		{"the least most", []api.Checks{right}, [][]api.Reading{series(1)}, math.MinInt, api.ErrRange},
		{"most below 0 without gauges", nil, nil, -1, api.ErrRange},
		{"most and readings", []api.Checks{right}, [][]api.Reading{{noTime}}, -1, api.ErrRange},
		{"checks", []api.Checks{wrong}, [][]api.Reading{series(1)}, 0, api.ErrRange},
		{"checks of a gauge without steps", []api.Checks{right, wrong}, [][]api.Reading{nil, nil}, 0, api.ErrRange},
		{"checks of the last gauge", []api.Checks{right, right, wrong}, [][]api.Reading{series(1), series(1), series(1)}, 0, api.ErrRange},
		{"a reading", []api.Checks{right}, [][]api.Reading{{ok(1), noTime}}, 0, api.ErrTime},
		{"a reading of the last gauge", []api.Checks{right, right}, [][]api.Reading{series(1, 2), {ok(1), noFlag}}, 0, api.ErrKind},
		{"checks, then a reading of the same gauge", []api.Checks{wrong}, [][]api.Reading{{noTime}}, 0, api.ErrRange},
		{"a reading, then checks of the next gauge", []api.Checks{right, wrong}, [][]api.Reading{{noTime}, series(1)}, 0, api.ErrTime},
		{"checks, then a reading of the next gauge", []api.Checks{wrong, right}, [][]api.Reading{series(1), {noTime}}, 0, api.ErrRange},
		{"a flag, then a time of the next gauge, in an earlier step", []api.Checks{right, right}, [][]api.Reading{{ok(1), noFlag}, {noTime, ok(1)}}, 0, api.ErrKind},
		{"a time, then a flag of the next gauge, in an earlier step", []api.Checks{right, right}, [][]api.Reading{{ok(1), noTime}, {noFlag, ok(1)}}, 0, api.ErrTime},
	} {
		expectCombine(t, x.name, x.checks, x.lists, x.most, combined{code: x.code})
	}
	for name, c := range refusedChecks() {
		expectCombine(t, name, []api.Checks{right, c}, [][]api.Reading{series(1), series(1)}, 0, combined{code: api.ErrRange})
	}
	for _, w := range wrongReadings() {
		expectCombine(t, "a wrong reading", []api.Checks{right, right}, [][]api.Reading{series(1), {w.reading}}, 0, combined{code: w.code})
	}
}

// P8.3
func TestFillOfNamedCases(t *testing.T) {
	for name, c := range map[string]struct {
		values []int
		good   []bool
		last   int
		want   []int
	}{
		"no values":                      {nil, nil, 3, nil},
		"empty slices":                   {[]int{}, []bool{}, 3, nil},
		"all are good":                   {[]int{5, 9, 7}, []bool{y, y, y}, 3, []int{5, 9, 7}},
		"none is good":                   {[]int{5, 9, 7}, []bool{n, n, n}, 3, []int{3, 3, 3}},
		"one that is good":               {[]int{5}, []bool{y}, 3, []int{5}},
		"one that is not good":           {[]int{5}, []bool{n}, 3, []int{3}},
		"before the first good one":      {[]int{5, 9, 7}, []bool{n, n, y}, 3, []int{3, 3, 7}},
		"behind the last good one":       {[]int{5, 9, 7}, []bool{y, n, n}, 3, []int{5, 5, 5}},
		"before and behind one":          {[]int{5, 9, 7}, []bool{n, y, n}, 3, []int{3, 9, 9}},
		"one between":                    {[]int{4, 0, 8}, []bool{y, n, y}, 3, []int{4, 6, 8}},
		"one between, rounded down":      {[]int{4, 0, 7}, []bool{y, n, y}, 3, []int{4, 5, 7}},
		"one between that falls":         {[]int{7, 0, 4}, []bool{y, n, y}, 3, []int{7, 5, 4}},
		"two between":                    {[]int{10, 0, 0, 20}, []bool{y, n, n, y}, 3, []int{10, 13, 16, 20}},
		"two between that fall":          {[]int{20, 0, 0, 10}, []bool{y, n, n, y}, 3, []int{20, 16, 13, 10}},
		"a line that stays":              {[]int{6, 0, 9, 6}, []bool{y, n, n, y}, 3, []int{6, 6, 6, 6}},
		"a line that rises by less":      {[]int{6, 0, 0, 0, 7}, []bool{y, n, n, n, y}, 3, []int{6, 6, 6, 6, 7}},
		"a line that falls by less":      {[]int{7, 0, 0, 0, 6}, []bool{y, n, n, n, y}, 3, []int{7, 6, 6, 6, 6}},
		"a line down to 0":               {[]int{3, 9, 9, 9, 0}, []bool{y, n, n, n, y}, 3, []int{3, 2, 1, 0, 0}},
		"two lines":                      {[]int{0, 9, 10, 9, 9, 1}, []bool{y, n, y, n, n, y}, 3, []int{0, 5, 10, 7, 4, 1}},
		"lines between pairs":            {[]int{1, 2, 0, 6, 7, 0, 0}, []bool{y, y, n, y, y, n, n}, 3, []int{1, 2, 4, 6, 7, 7, 7}},
		"everything at once":             {[]int{8, 9, 10, 0, 0, 20, 0}, []bool{n, n, y, n, n, y, n}, 5, []int{5, 5, 10, 13, 16, 20, 20}},
		"what is not good bends nothing": {[]int{4, api.MaxFlow, 8}, []bool{y, n, y}, 3, []int{4, 6, 8}},
		"a last of 0":                    {[]int{5, 9}, []bool{n, y}, 0, []int{0, 9}},
		"the greatest last":              {[]int{5, 0, 9}, []bool{n, y, n}, api.MaxFlow, []int{api.MaxFlow, 0, 0}},
		"a good 0 goes on":               {[]int{0, 5}, []bool{y, n}, 3, []int{0, 0}},
		"the greatest line":              {[]int{0, 0, 0, api.MaxFlow}, []bool{y, n, n, y}, 3, []int{0, api.MaxFlow / 3, api.MaxFlow / 3 * 2, api.MaxFlow}},
	} {
		expectFill(t, name, c.values, c.good, c.last, c.want, api.OK)
	}
}

// nextGood returns the index of the next good value from one on, in steps of 1 or -1, or -1.
func nextGood(good []bool, from, by int) int {
	for i := from; i >= 0 && i < len(good); i += by {
		if good[i] {
			return i
		}
	}
	return -1
}

// expectFilled compares what Fill returns with the promise, value by value, and with the consequence that a replaced value lies between the good ones beside it.
func expectFilled(t *testing.T, values []int, good []bool, last int) {
	t.Helper()
	filled, code := quality.Fill(values, good, last)
	if code != api.OK || len(filled) != len(values) {
		t.Fatalf("%d values, %d", len(filled), code)
	}
	for i, value := range filled {
		before, behind := nextGood(good, i, -1), nextGood(good, i, 1)
		want := last
		switch {
		case good[i]:
			want = values[i]
		case before >= 0 && behind < 0:
			want = values[before]
		case before >= 0:
			// The line times the number of its steps, so that nothing is divided.
			steps := behind - before
			line := values[before]*(behind-i) + values[behind]*(i-before)
			if value*steps > line || (value+1)*steps <= line {
				t.Errorf("Fill gives %d at %d, of a line from %d at %d to %d at %d", value, i, values[before], before, values[behind], behind)
			}
			if value < min(values[before], values[behind]) || value > max(values[before], values[behind]) {
				t.Errorf("Fill gives %d at %d, which is not between %d and %d", value, i, values[before], values[behind])
			}
			continue
		}
		if value != want {
			t.Errorf("Fill gives %d at %d; want %d", value, i, want)
		}
	}
}

// P8.3 against its definition, and the consequence.
func TestFillOfRandomValues(t *testing.T) {
	numbers := &samples.Sequence{}
	for range 20000 {
		below := 1 + numbers.Below(30)
		if numbers.Below(3) == 0 {
			below = api.MaxFlow + 1
		}
		values, good := someValues(numbers, numbers.Below(15), below)
		expectFilled(t, values, good, numbers.Below(below))
		if t.Failed() {
			t.Fatalf("this was in %v, %v", values, good)
		}
	}
}

// P8.3: there is no limit to their number, and lines over all of them are exact.
func TestFillOfManyValues(t *testing.T) {
	const count = 100*api.MaxList + 1
	values, good := slices.Repeat([]int{7}, count), make([]bool, count)
	good[0], good[count-1] = true, true
	for _, ends := range [][2]int{{0, api.MaxFlow}, {api.MaxFlow, 0}, {api.MaxFlow, 1}, {api.MaxFlow, api.MaxFlow}, {5, 6}} {
		values[0], values[count-1] = ends[0], ends[1]
		if filled, code := quality.Fill(values, good, 0); code != api.OK || len(filled) != count {
			t.Fatalf("%d values, %d", len(filled), code)
		} else {
			for _, i := range []int{1, 2, count / 3, count / 2, count - 3, count - 2} {
				line := ends[0]*(count-1-i) + ends[1]*i
				if filled[i]*(count-1) > line || (filled[i]+1)*(count-1) <= line {
					t.Errorf("%v: %d at %d", ends, filled[i], i)
				}
			}
		}
	}
}

// P8.3, R3, R5
func TestFillRefusesInOrder(t *testing.T) {
	expectFill(t, "values alone", []int{1}, nil, 3, nil, api.ErrForm)
	expectFill(t, "words alone", nil, []bool{y}, 3, nil, api.ErrForm)
	expectFill(t, "one word too few", []int{1, 2}, []bool{y}, 3, nil, api.ErrForm)
	expectFill(t, "one word too many", []int{1}, []bool{y, n}, 3, nil, api.ErrForm)
	for _, wrong := range notFlows {
		expectFill(t, "a form and a value", []int{wrong}, nil, 3, nil, api.ErrForm)
		expectFill(t, "a form and last", []int{1}, nil, wrong, nil, api.ErrForm)
		for _, isGood := range []bool{y, n} {
			for at := range 4 {
				values, good := []int{5, 9, 7, 1}, []bool{y, n, n, y}
				values[at], good[at] = wrong, isGood
				expectFill(t, "a value", values, good, 3, nil, api.ErrRange)
				expectFill(t, "a value and last", values, good, wrong, nil, api.ErrRange)
			}
			expectFill(t, "last", []int{1}, []bool{isGood}, wrong, nil, api.ErrRange)
		}
		expectFill(t, "last without values", nil, nil, wrong, nil, api.ErrRange)
	}
	for _, right := range flows {
		expectFill(t, "a flow", []int{right, 1}, []bool{y, n}, right, []int{right, right}, api.OK)
		expectFill(t, "a flow that is not good", []int{right}, []bool{n}, right, []int{right}, api.OK)
	}
}

// P8.4
func TestDriftOfNamedCases(t *testing.T) {
	const most = api.MaxFlow
	for name, c := range map[string]struct {
		a, b  []int
		good  []bool
		want  int
		there bool
	}{
		"no steps":                       {nil, nil, nil, 0, false},
		"empty slices":                   {[]int{}, []int{}, []bool{}, 0, false},
		"no good steps":                  {[]int{1, 2}, []int{3, 4}, []bool{n, n}, 0, false},
		"one step":                       {[]int{10}, []int{13}, []bool{y}, 3, true},
		"one step that falls":            {[]int{13}, []int{10}, []bool{y}, -3, true},
		"no drift":                       {[]int{10, 20}, []int{10, 20}, []bool{y, y}, 0, true},
		"one that is not good":           {[]int{10, 10, 10}, []int{12, 99, 14}, []bool{y, n, y}, 3, true},
		"rounded down":                   {[]int{10, 10, 10}, []int{12, 12, 11}, []bool{y, y, y}, 1, true},
		"less than 1":                    {[]int{10, 10, 10}, []int{10, 10, 12}, []bool{y, y, y}, 0, true},
		"rounded down below 0":           {[]int{10, 10, 10}, []int{9, 10, 10}, []bool{y, y, y}, -1, true},
		"a multiple below 0":             {[]int{10, 10, 10}, []int{7, 6, 8}, []bool{y, y, y}, -3, true},
		"the mean of both ways":          {[]int{10, 20, 0, 9}, []int{20, 10, 9, 0}, []bool{y, y, y, y}, 0, true},
		"the good steps alone count":     {[]int{0, 0, 0, 0}, []int{7, 100, 100, 0}, []bool{y, n, n, y}, 3, true},
		"the greatest drift":             {[]int{0, 0}, []int{most, most}, []bool{y, y}, most, true},
		"the least drift":                {[]int{most, most}, []int{0, 0}, []bool{y, y}, -most, true},
		"as many as permitted":           {make([]int, api.MaxList), slices.Repeat([]int{most}, api.MaxList), slices.Repeat([]bool{y}, api.MaxList), most, true},
		"as many as permitted that fall": {slices.Repeat([]int{most}, api.MaxList), append(make([]int, api.MaxList-1), 1), slices.Repeat([]bool{y}, api.MaxList), -most, true},
		"as many, none of them good":     {make([]int, api.MaxList), make([]int, api.MaxList), make([]bool, api.MaxList), 0, false},
	} {
		expectDrift(t, name, c.a, c.b, c.good, c.want, c.there, api.OK)
	}
}

// P8.4 against its definition.
func TestDriftOfRandomValues(t *testing.T) {
	numbers := &samples.Sequence{}
	for range 20000 {
		count, below := numbers.Below(10), 1+numbers.Below(20)
		a, good := someValues(numbers, count, below)
		b, _ := someValues(numbers, count, below)
		believed := len(goodOf(a, good))
		if believed == 0 {
			expectDrift(t, "no good steps", a, b, good, 0, false, api.OK)
			continue
		}
		sum := 0
		for i, value := range goodOf(b, good) {
			sum += value - goodOf(a, good)[i]
		}
		drift, there, code := quality.Drift(a, b, good)
		if drift*believed > sum || (drift+1)*believed <= sum || !there || code != api.OK {
			t.Fatalf("Drift of %v, %v, %v = %d, %t, %d", a, b, good, drift, there, code)
		}
	}
}

// P8.4, R3, R5
func TestDriftRefusesInOrder(t *testing.T) {
	many := make([]int, api.MaxList+1)
	manyGood := make([]bool, api.MaxList+1)
	for _, lengths := range [][3]int{{1, 0, 0}, {0, 1, 0}, {0, 0, 1}, {1, 1, 0}, {1, 0, 1}, {0, 1, 1}, {2, 2, 1}, {2, 1, 2}, {1, 2, 2}, {api.MaxList + 1, api.MaxList + 1, api.MaxList}, {api.MaxList, api.MaxList + 1, api.MaxList}} {
		a, b, good := many[:lengths[0]], many[:lengths[1]], manyGood[:lengths[2]]
		expectDrift(t, "different lengths", a, b, good, 0, false, api.ErrForm)
		for _, wrong := range notFlows {
			wrongA, wrongB := slices.Repeat([]int{wrong}, lengths[0]), slices.Repeat([]int{wrong}, lengths[1])
			expectDrift(t, "different lengths and wrong values", wrongA, wrongB, good, 0, false, api.ErrForm)
		}
	}
	for _, isGood := range []bool{y, n} {
		for _, wrong := range notFlows {
			for at := range 3 {
				good, right, values := slices.Repeat([]bool{isGood}, 3), []int{5, 9, 7}, []int{5, 9, 7}
				values[at] = wrong
				expectDrift(t, "a value of a", values, right, good, 0, false, api.ErrRange)
				expectDrift(t, "a value of b", right, values, good, 0, false, api.ErrRange)
				expectDrift(t, "both values", values, values, good, 0, false, api.ErrRange)
			}
			tooMany := slices.Clone(many)
			tooMany[api.MaxList] = wrong
			expectDrift(t, "a value of a, and too many", tooMany, many, manyGood, 0, false, api.ErrRange)
			expectDrift(t, "a value of b, and too many", many, tooMany, manyGood, 0, false, api.ErrRange)
		}
		good := slices.Repeat([]bool{isGood}, api.MaxList+1)
		expectDrift(t, "one step too many", many, many, good, 0, false, api.ErrLimit)
		expectDrift(t, "many steps too many", make([]int, 3*api.MaxList), make([]int, 3*api.MaxList), make([]bool, 3*api.MaxList), 0, false, api.ErrLimit)
	}
	for _, right := range flows {
		expectDrift(t, "a flow", []int{right}, []int{0}, []bool{y}, -right, true, api.OK)
		expectDrift(t, "a flow", []int{0}, []int{right}, []bool{y}, right, true, api.OK)
	}
}

// R2: what is passed in stays as it is, also around it where the slice has room.
func TestArgumentsAreNotChanged(t *testing.T) {
	values, allValues := samples.Window([]int{9, 3, 100, 7, 5, 1}, 1000)
	others, allOthers := samples.Window([]int{1, 2, 3, 4, 5, 6}, 1001)
	words, allWords := samples.Window([]bool{n, y, n, n, y, n}, true)
	checks, allChecks := samples.Window([]api.Checks{usual(), open(), {}}, api.Checks{Jump: -1})
	first, allFirst := samples.Window([]api.Reading{ok(20), fault(20), ok(9), ok(90), ice(21), ok(21)}, api.Reading{Flag: 9})
	lists, allLists := samples.Window([][]api.Reading{first, first, first}, nil)
	valuesBefore, othersBefore, wordsBefore := slices.Clone(allValues), slices.Clone(allOthers), slices.Clone(allWords)
	checksBefore, firstBefore := slices.Clone(allChecks), slices.Clone(allFirst)
	for size := range len(values) + 1 {
		for _, last := range []int{-1, 0, 50} {
			quality.Fill(values[:size], words[:size], last)
			quality.Combine(checks, lists, last)
		}
		quality.Vote(values[:size], words[:size])
		quality.Vote(values[:size], words)
		quality.Drift(values[:size], others[:size], words[:size])
		quality.Verdicts(checks[0], first[:size])
		quality.Combine(checks[:size/2], lists[:size/2], 5)
	}
	if !slices.Equal(allValues, valuesBefore) || !slices.Equal(allOthers, othersBefore) || !slices.Equal(allWords, wordsBefore) {
		t.Error("values, or which of them are good, were changed")
	}
	if !slices.Equal(allChecks, checksBefore) || !slices.Equal(allFirst, firstBefore) {
		t.Error("checks or readings were changed")
	}
	for i, list := range allLists {
		if isList := i >= 5 && i < 8; isList && &list[0] != &first[0] || !isList && list != nil {
			t.Errorf("the list %d was changed", i)
		}
	}
}

// R2, R4: results are new memory, each its own, and nothing is kept of arguments that are changed afterwards.
func TestResultsAreNewMemory(t *testing.T) {
	l := series(20, 31, 30)
	verdicts, _ := quality.Verdicts(usual(), l)
	again, _ := quality.Verdicts(usual(), l)
	again[0], l[1] = 99, ok(25)
	if !slices.Equal(verdicts, []int{good, jump, good}) {
		t.Errorf("%v: verdicts changed with an argument, or with another result", verdicts)
	}
	expectVerdicts(t, "changed readings", usual(), l, []int{good, good, good}, api.OK)

	values, words := []int{4, 0, 8}, []bool{y, y, y}
	filled, _ := quality.Fill(values, words, 3)
	values[0], words[1] = 6, n
	if !slices.Equal(filled, []int{4, 0, 8}) {
		t.Errorf("%v: filled values changed with an argument", filled)
	}
	expectFill(t, "changed values", values, words, 3, []int{6, 7, 8}, api.OK)

	c, lists := []api.Checks{open(), open()}, [][]api.Reading{series(1, 0), series(1, 0)}
	votes, there, odd, _ := quality.Combine(c, lists, 0)
	votes[1], there[1] = 99, n
	lists[0][0] = ok(50)
	if !slices.Equal(votes, []int{1, 99}) || !slices.Equal(there, []bool{y, n}) || !slices.Equal(odd, []int{0, 0}) {
		t.Errorf("%v, %v, %v: a result changed with an argument, or with another result", votes, there, odd)
	}
	expectCombine(t, "changed readings", c, lists, 0, combined{[]int{1, 0}, []bool{y, y}, []int{1, 0}, api.OK})
}
