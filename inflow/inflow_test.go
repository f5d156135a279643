package inflow_test

import (
	"math"
	"slices"
	"testing"

	"hydrocascade/api"
	"hydrocascade/inflow"
	"hydrocascade/quantity"
	"hydrocascade/samples"
)

// Numbers that are flows, at the ends of their range and within, and numbers that are not.
var (
	flows    = []int{0, 1, 50, api.MaxFlow - 1, api.MaxFlow}
	notFlows = []int{math.MinInt, -api.MaxFlow, -1, api.MaxFlow + 1, api.MaxVolume, math.MaxInt}
)

// Numbers that are volumes, and numbers that are not.
var (
	rightVolumes = []int{0, 1, 50, api.MaxFlow + 1, api.MaxVolume - 1, api.MaxVolume}
	notVolumes   = []int{math.MinInt, -api.MaxVolume, -1, api.MaxVolume + 1, math.MaxInt}
)

// Numbers that Smooth takes, and numbers that it does not take.
var (
	values    = []int{-api.MaxVolume, 1 - api.MaxVolume, -1, 0, 1, api.MaxVolume - 1, api.MaxVolume}
	notValues = []int{math.MinInt, -api.MaxVolume - 1, api.MaxVolume + 1, math.MaxInt}
)

// Numbers that a width may be, and numbers that it may not be.
var (
	widths    = []int{1, 2, 3, api.MaxList - 1, api.MaxList}
	notWidths = []int{math.MinInt, -api.MaxList, -1, 0, api.MaxList + 1, math.MaxInt}
)

func bounds(least, most int) api.Bounds { return api.Bounds{Least: least, Most: most} }

// repeat returns so many numbers, all of them the same.
func repeat(number, count int) []int { return slices.Repeat([]int{number}, count) }

func sum(numbers []int) int {
	total := 0
	for _, number := range numbers {
		total += number
	}
	return total
}

// expectCode compares the errors of all functions that look at volumes and flows out, and expects nothing else with one; off is a volume.
func expectCode(t *testing.T, name string, volumes, out []int, off int, code api.Errno) {
	t.Helper()
	if got := inflow.Check(volumes, out); got != code {
		t.Errorf("%s: Check = %d; want %d", name, got, code)
	}
	balance, got := inflow.Balance(volumes, out)
	if got != code || got != api.OK && len(balance) != 0 || got == api.OK && len(balance) != len(out) {
		t.Errorf("%s: Balance has %d inflows, %d; want %d", name, len(balance), got, code)
	}
	uncertain, got := inflow.Uncertain(volumes, out, off)
	if got != code || got != api.OK && len(uncertain) != 0 || got == api.OK && len(uncertain) != len(out) {
		t.Errorf("%s: Uncertain has %d inflows, %d; want %d", name, len(uncertain), got, code)
	}
}

func expectBalance(t *testing.T, name string, volumes, out, want []int) {
	t.Helper()
	if balance, code := inflow.Balance(volumes, out); !slices.Equal(balance, want) || code != api.OK {
		t.Errorf("%s: Balance of %v, %v = %v, %d; want %v", name, volumes, out, balance, code, want)
	}
}

func expectUncertain(t *testing.T, name string, volumes, out []int, off int, want []api.Bounds, code api.Errno) {
	t.Helper()
	if uncertain, gotCode := inflow.Uncertain(volumes, out, off); !slices.Equal(uncertain, want) || gotCode != code {
		t.Errorf("%s: Uncertain of %v, %v, %d = %v, %d; want %v, %d", name, volumes, out, off, uncertain, gotCode, want, code)
	}
}

func expectSmooth(t *testing.T, name string, l []int, width int, want []int, code api.Errno) {
	t.Helper()
	if smoothed, gotCode := inflow.Smooth(l, width); !slices.Equal(smoothed, want) || gotCode != code {
		t.Errorf("%s: Smooth with width %d = %v, %d; want %v, %d", name, width, smoothed, gotCode, want, code)
	}
}

// P9.1: each number at the ends of its range and beyond, wherever it stands.
func TestCheckPermitsNumbersInTheirRangesAlone(t *testing.T) {
	const steps = 3
	expectNumber := func(kind string, permitted, refused []int, put func(volumes, out []int, at, number int), places int) {
		for at := range places {
			for _, number := range slices.Concat(permitted, refused) {
				volumes, out := repeat(7, steps+1), repeat(5, steps)
				put(volumes, out, at, number)
				want := api.ErrRange
				if slices.Contains(permitted, number) {
					want = api.OK
				}
				expectCode(t, kind, volumes, out, 2, want)
			}
		}
	}
	expectNumber("a volume", rightVolumes, notVolumes, func(volumes, _ []int, at, number int) { volumes[at] = number }, steps+1)
	expectNumber("a flow out", flows, notFlows, func(_, out []int, at, number int) { out[at] = number }, steps)
	for _, volume := range rightVolumes {
		expectCode(t, "a volume without steps", []int{volume}, nil, 2, api.OK)
		expectCode(t, "a volume without steps, an empty slice", []int{volume}, []int{}, 2, api.OK)
	}
	for _, volume := range notVolumes {
		expectCode(t, "a wrong volume without steps", []int{volume}, nil, 2, api.ErrRange)
		for _, flow := range notFlows {
			expectCode(t, "a wrong volume and a wrong flow out", []int{0, volume}, []int{flow}, 2, api.ErrRange)
		}
	}
}

// P9.1, R2: there is one volume more than there are flows out.
func TestCheckPermitsOneMoreVolumeAlone(t *testing.T) {
	for count := range 6 {
		for steps := range 6 {
			want := api.ErrForm
			if count == steps+1 {
				want = api.OK
			}
			expectCode(t, "right numbers", repeat(7, count), repeat(5, steps), 2, want)
		}
	}
	expectCode(t, "nil slices", nil, nil, 2, api.ErrForm)
	expectCode(t, "empty slices", []int{}, []int{}, 2, api.ErrForm)
	expectCode(t, "flows out alone", nil, []int{5}, 2, api.ErrForm)
}

// P9.1, R3, R5: each error with those that are named behind it.
func TestCheckRefusesInOrder(t *testing.T) {
	const most = api.MaxList
	expectCode(t, "as many as permitted", repeat(7, most+1), repeat(5, most), 2, api.OK)
	expectCode(t, "one too many", repeat(7, most+2), repeat(5, most+1), 2, api.ErrLimit)
	expectCode(t, "many too many", repeat(7, 3*most+1), repeat(5, 3*most), 2, api.ErrLimit)
	expectCode(t, "one too many, and a volume is missing", repeat(7, most+1), repeat(5, most+1), 2, api.ErrForm)
	expectCode(t, "one too many, and two volumes are missing", repeat(7, most), repeat(5, most+1), 2, api.ErrForm)
	expectCode(t, "one too many, and a volume more", repeat(7, most+3), repeat(5, most+1), 2, api.ErrForm)
	expectCode(t, "a volume more than permitted", repeat(7, most+2), repeat(5, most), 2, api.ErrForm)
	for _, wrong := range []int{math.MinInt, -1, api.MaxVolume + 1, math.MaxInt} {
		expectCode(t, "one too few, all wrong", repeat(wrong, 2), repeat(wrong, 2), 2, api.ErrForm)
		expectCode(t, "one too many, all wrong", repeat(wrong, most+2), repeat(wrong, most+1), 2, api.ErrLimit)
		expectCode(t, "one too many, wrong flows out", repeat(7, most+2), repeat(wrong, most+1), 2, api.ErrLimit)
		expectCode(t, "one too many, wrong volumes", repeat(wrong, most+2), repeat(5, most+1), 2, api.ErrLimit)
		expectCode(t, "one too many, a form, all wrong", repeat(wrong, most+1), repeat(wrong, most+1), 2, api.ErrForm)
		lastVolume, lastOut := repeat(7, most+1), repeat(5, most)
		lastVolume[most], lastOut[most-1] = wrong, wrong
		expectCode(t, "the last volume of many", lastVolume, repeat(5, most), 2, api.ErrRange)
		expectCode(t, "the last flow out of many", repeat(7, most+1), lastOut, 2, api.ErrRange)
	}
}

// P9.2
func TestBalanceOfNamedCases(t *testing.T) {
	const most, flow = api.MaxVolume, api.MaxFlow
	for name, c := range map[string]struct{ volumes, out, want []int }{
		"no steps":                           {[]int{7}, nil, nil},
		"no steps, an empty slice":           {[]int{7}, []int{}, nil},
		"nothing happens":                    {[]int{7, 7}, []int{0}, []int{0}},
		"it fills":                           {[]int{7, 12}, []int{0}, []int{5}},
		"it fills, and some flows out":       {[]int{7, 12}, []int{4}, []int{9}},
		"it empties by what flows out":       {[]int{12, 7}, []int{5}, []int{0}},
		"it empties by less":                 {[]int{12, 7}, []int{8}, []int{3}},
		"it empties by more":                 {[]int{12, 7}, []int{3}, []int{-2}},
		"it stays, and some flows out":       {[]int{12, 12}, []int{3}, []int{3}},
		"several steps":                      {[]int{100, 90, 95, 95}, []int{30, 0, 4}, []int{20, 5, 4}},
		"a volume that was too high":         {[]int{50, 90, 50}, []int{10, 10}, []int{50, -30}},
		"a volume that was too low":          {[]int{50, 10, 50}, []int{10, 10}, []int{-30, 50}},
		"the greatest inflow":                {[]int{0, most}, []int{flow}, []int{most + flow}},
		"the least inflow":                   {[]int{most, 0}, []int{0}, []int{-most}},
		"the greatest volumes and flows out": {[]int{most, most, most}, []int{flow, flow}, []int{flow, flow}},
		"as many as permitted":               {repeat(most, api.MaxList+1), repeat(flow, api.MaxList), repeat(flow, api.MaxList)},
	} {
		expectBalance(t, name, c.volumes, c.out, c.want)
	}
}

// someWater returns random volumes and flows out of so many steps, all of them below a number.
func someWater(numbers *samples.Sequence, steps, below int) (volumes, out []int) {
	volumes, out = []int{numbers.Below(below)}, nil
	for range steps {
		volumes, out = append(volumes, numbers.Below(below)), append(out, numbers.Below(below))
	}
	return volumes, out
}

// P9.2 and the consequence that the inflows add up to the last volume less the first one plus all that went out.
func TestBalanceAddsUp(t *testing.T) {
	numbers := &samples.Sequence{}
	for range 5000 {
		below := []int{3, 50, api.MaxFlow + 1}[numbers.Below(3)]
		volumes, out := someWater(numbers, numbers.Below(12), below)
		balance, code := inflow.Balance(volumes, out)
		if code != api.OK || len(balance) != len(out) {
			t.Fatalf("Balance of %v, %v = %v, %d", volumes, out, balance, code)
		}
		if all := volumes[len(out)] - volumes[0] + sum(out); sum(balance) != all {
			t.Errorf("Balance of %v, %v adds up to %d; want %d", volumes, out, sum(balance), all)
		}
		// What was there and came in is what is there and went out.
		for step, in := range balance {
			if volumes[step]+in != volumes[step+1]+out[step] {
				t.Errorf("Balance of %v, %v = %v, which loses water in step %d", volumes, out, balance, step)
			}
		}
	}
}

// P9.2
func TestUncertainOfNamedCases(t *testing.T) {
	const most, flow = api.MaxVolume, api.MaxFlow
	for name, c := range map[string]struct {
		volumes, out []int
		off          int
		want         []api.Bounds
	}{
		"no steps":                         {[]int{7}, nil, 3, nil},
		"no steps, an empty slice":         {[]int{7}, []int{}, 3, nil},
		"volumes that are exact":           {[]int{100, 90, 95, 95}, []int{30, 0, 4}, 0, []api.Bounds{bounds(20, 20), bounds(5, 5), bounds(4, 4)}},
		"volumes that are wrong":           {[]int{100, 90, 95, 95}, []int{30, 0, 4}, 3, []api.Bounds{bounds(14, 26), bounds(-1, 11), bounds(-2, 10)}},
		"both volumes could be below 0":    {[]int{2, 1}, []int{10}, 5, []api.Bounds{bounds(3, 16)}},
		"the first could be below 0":       {[]int{2, 100}, []int{10}, 5, []api.Bounds{bounds(98, 115)}},
		"the second could be below 0":      {[]int{100, 2}, []int{10}, 5, []api.Bounds{bounds(-95, -78)}},
		"the one between could be":         {[]int{100, 2, 100}, []int{0, 0}, 5, []api.Bounds{bounds(-105, -88), bounds(88, 105)}},
		"just not below 0":                 {[]int{5, 5}, []int{0}, 5, []api.Bounds{bounds(-10, 10)}},
		"just below 0":                     {[]int{4, 4}, []int{0}, 5, []api.Bounds{bounds(-9, 9)}},
		"volumes of 0":                     {[]int{0, 0}, []int{10}, 5, []api.Bounds{bounds(5, 15)}},
		"volumes of 0 that are exact":      {[]int{0, 0}, []int{10}, 0, []api.Bounds{bounds(10, 10)}},
		"an inflow below 0":                {[]int{50, 10}, []int{5}, 1, []api.Bounds{bounds(-37, -33)}},
		"beyond the greatest volume":       {[]int{most, most}, []int{0}, 7, []api.Bounds{bounds(-14, 14)}},
		"the greatest off":                 {[]int{most, most}, []int{flow}, most, []api.Bounds{bounds(flow-2*most, flow+2*most)}},
		"the greatest off of an empty one": {[]int{0, 0}, []int{flow}, most, []api.Bounds{bounds(flow-most, flow+most)}},
		"the greatest off, filled":         {[]int{0, most}, []int{0}, most, []api.Bounds{bounds(-most, 2*most)}},
		"the greatest off, emptied":        {[]int{most, 0}, []int{0}, most, []api.Bounds{bounds(-2*most, most)}},
		"as many as permitted":             {repeat(9, api.MaxList+1), repeat(4, api.MaxList), 2, slices.Repeat([]api.Bounds{bounds(0, 8)}, api.MaxList)},
	} {
		expectUncertain(t, name, c.volumes, c.out, c.off, c.want, api.OK)
	}
}

// searchedInflow looks at all volumes that could have been at the ends of a step.
func searchedInflow(before, after, flow, off int) api.Bounds {
	found := bounds(math.MaxInt, math.MinInt)
	for a := before - off; a <= before+off; a++ {
		for b := after - off; b <= after+off; b++ {
			if a >= 0 && b >= 0 {
				found = bounds(min(found.Least, b-a+flow), max(found.Most, b-a+flow))
			}
		}
	}
	return found
}

// P9.2 against its definition, and the consequence that the inflow of each step lies within what is possible.
func TestUncertainOfRandomVolumes(t *testing.T) {
	numbers := &samples.Sequence{}
	for range 3000 {
		volumes, out := someWater(numbers, numbers.Below(6), 1+numbers.Below(15))
		off := numbers.Below(9)
		var want []api.Bounds
		for step, flow := range out {
			want = append(want, searchedInflow(volumes[step], volumes[step+1], flow, off))
		}
		expectUncertain(t, "random volumes", volumes, out, off, want, api.OK)
		balance, code := inflow.Balance(volumes, out)
		for step, in := range balance {
			if in < want[step].Least || in > want[step].Most || code != api.OK {
				t.Errorf("the inflow %d is not within %v", in, want[step])
			}
		}
	}
}

// The consequence that the inflow of each step lies within what is possible, for volumes of all sizes.
func TestBalanceLiesWithinUncertain(t *testing.T) {
	numbers := &samples.Sequence{}
	for range 3000 {
		volumes, out := someWater(numbers, numbers.Below(6), api.MaxFlow+1)
		for i := range volumes {
			volumes[i] = volumes[i] << numbers.Below(9)
		}
		off := volumes[numbers.Below(len(volumes))]
		balance, code := inflow.Balance(volumes, out)
		uncertain, codeOfBounds := inflow.Uncertain(volumes, out, off)
		if code != api.OK || codeOfBounds != api.OK || len(balance) != len(out) || len(uncertain) != len(out) {
			t.Fatalf("%v, %v, %d: errors %d and %d", volumes, out, off, code, codeOfBounds)
		}
		for step, in := range balance {
			if in < uncertain[step].Least || in > uncertain[step].Most {
				t.Errorf("%v, %v, %d: the inflow %d is not within %v", volumes, out, off, in, uncertain[step])
			}
		}
	}
}

// P9.2, R3, R5: off at the ends of its range and beyond, and the errors of Check before.
func TestUncertainRefusesInOrder(t *testing.T) {
	const most = api.MaxList
	for _, off := range rightVolumes {
		expectCode(t, "a permitted off", []int{7, 9}, []int{5}, off, api.OK)
		expectCode(t, "a permitted off without steps", []int{7}, nil, off, api.OK)
	}
	for _, off := range notVolumes {
		expectUncertain(t, "off", []int{7, 9}, []int{5}, off, nil, api.ErrRange)
		expectUncertain(t, "off without steps", []int{7}, nil, off, nil, api.ErrRange)
		expectUncertain(t, "off and a volume", []int{-1, 9}, []int{5}, off, nil, api.ErrRange)
		expectUncertain(t, "off and a form", []int{7}, []int{5}, off, nil, api.ErrForm)
		expectUncertain(t, "off without volumes", nil, nil, off, nil, api.ErrForm)
		expectUncertain(t, "off and a limit", repeat(7, most+2), repeat(5, most+1), off, nil, api.ErrLimit)
	}
}

// P9.3
func TestSmoothOfNamedCases(t *testing.T) {
	const most = api.MaxVolume
	for name, c := range map[string]struct {
		l     []int
		width int
		want  []int
	}{
		"no values":                        {nil, 1, nil},
		"no values, an empty slice":        {[]int{}, api.MaxList, nil},
		"one value":                        {[]int{5}, 3, []int{5}},
		"one value below 0":                {[]int{-5}, 3, []int{-5}},
		"the chapter's example":            {[]int{5, 0, 0, 7}, 3, []int{2, 2, 1, 7}},
		"a width of 1":                     {[]int{3, -2, 9, 0}, 1, []int{3, -2, 9, 0}},
		"whole groups":                     {[]int{1, 5, 2, 8}, 2, []int{3, 3, 5, 5}},
		"nothing is left over":             {[]int{1, 2, 6}, 3, []int{3, 3, 3}},
		"one is left over":                 {[]int{1, 2, 7}, 3, []int{4, 3, 3}},
		"two are left over":                {[]int{1, 2, 8}, 3, []int{4, 4, 3}},
		"a last group of two":              {[]int{9, 0, 0, 0, 0, 0, 3}, 5, []int{2, 2, 2, 2, 1, 2, 1}},
		"a last group of one":              {[]int{9, 0, 0, 4}, 3, []int{3, 3, 3, 4}},
		"a width of all":                   {[]int{1, 2, 4}, 3, []int{3, 2, 2}},
		"a width beyond all":               {[]int{1, 2, 4}, 4, []int{3, 2, 2}},
		"the greatest width":               {[]int{1, 2, 4}, api.MaxList, []int{3, 2, 2}},
		"below 0, one is left over":        {[]int{-5, 0, 0}, 3, []int{-1, -2, -2}},
		"below 0, two are left over":       {[]int{-4, 0, 0}, 3, []int{-1, -1, -2}},
		"below 0, nothing is left over":    {[]int{0, 0, -6}, 3, []int{-2, -2, -2}},
		"below 0 by 1":                     {[]int{0, 0, -1}, 3, []int{0, 0, -1}},
		"above 0 by 1":                     {[]int{0, 0, 1}, 3, []int{1, 0, 0}},
		"they add up to 0":                 {[]int{7, -3, -4}, 3, []int{0, 0, 0}},
		"a peak and a trough":              {[]int{50, -30, 10, 10}, 2, []int{10, 10, 10, 10}},
		"groups with signs of their own":   {[]int{-3, 0, 3, 0, -1}, 2, []int{-1, -2, 2, 1, -1}},
		"the greatest values":              {[]int{most, most, most}, 2, []int{most, most, most}},
		"the least values":                 {[]int{-most, -most, -most}, 2, []int{-most, -most, -most}},
		"the least and the greatest value": {[]int{-most, most}, 2, []int{0, 0}},
		"as many of the greatest":          {repeat(most, api.MaxList), api.MaxList, repeat(most, api.MaxList)},
		"as many of the least":             {repeat(-most, api.MaxList), api.MaxList, repeat(-most, api.MaxList)},
		"as many as permitted, one more":   {append(repeat(0, api.MaxList-1), 1), api.MaxList, append([]int{1}, repeat(0, api.MaxList-1)...)},
		"as many as permitted, one less":   {append([]int{-1}, repeat(0, api.MaxList-1)...), api.MaxList, append(repeat(0, api.MaxList-1), -1)},
	} {
		expectSmooth(t, name, c.l, c.width, c.want, api.OK)
	}
}

// dealtOut gives out the sum of a group one by one, in rounds that begin with the first step; where it is below 0 it is taken back, in rounds that begin with the last one.
func dealtOut(group []int) []int {
	dealt := make([]int, len(group))
	total := sum(group)
	for i := range max(total, 0) {
		dealt[i%len(group)]++
	}
	for i := range max(-total, 0) {
		dealt[len(group)-1-i%len(group)]--
	}
	return dealt
}

// someValues returns so many random values, as often below 0 as above.
func someValues(numbers *samples.Sequence, count, most int) []int {
	l := make([]int, count)
	for i := range l {
		l[i] = numbers.Below(2*most+1) - most
	}
	return l
}

// P9.3 against its definition.
func TestSmoothOfRandomValues(t *testing.T) {
	numbers := &samples.Sequence{}
	for range 10000 {
		l, width := someValues(numbers, numbers.Below(20), 1+numbers.Below(30)), 1+numbers.Below(8)
		var want []int
		for rest := l; len(rest) > 0; rest = rest[min(width, len(rest)):] {
			want = append(want, dealtOut(rest[:min(width, len(rest))])...)
		}
		expectSmooth(t, "random values", l, width, want, api.OK)
		if t.Failed() {
			t.Fatalf("this was in %v, %d", l, width)
		}
	}
}

// The consequence of P9.3: the sum of each group stays, also for the greatest groups and values.
func TestSmoothKeepsTheSumOfEachGroup(t *testing.T) {
	numbers := &samples.Sequence{}
	for _, count := range []int{1, 7, 100, api.MaxList - 1, api.MaxList} {
		for _, width := range []int{1, 2, 96, count, api.MaxList - 1, api.MaxList} {
			l := someValues(numbers, count, api.MaxFlow/2)
			for i := range l {
				l[i] *= 1 << numbers.Below(10)
			}
			smoothed, code := inflow.Smooth(l, width)
			if code != api.OK || len(smoothed) != count {
				t.Fatalf("%d values, width %d: %d values, error %d", count, width, len(smoothed), code)
			}
			for from := 0; from < count; from += width {
				to := min(from+width, count)
				before, after := l[from:to], smoothed[from:to]
				if sum(before) != sum(after) || after[0]-after[len(after)-1] > 1 || !slices.IsSortedFunc(after, func(a, b int) int { return b - a }) {
					t.Errorf("%d values, width %d: the group from %d on had the sum %d, and has %d", count, width, from, sum(before), sum(after))
				}
			}
		}
	}
}

// P9.3, R3, R5: width and values at the ends of their ranges and beyond, and each error with the one behind it.
func TestSmoothRefusesInOrder(t *testing.T) {
	for _, width := range widths {
		for _, value := range values {
			expectSmooth(t, "right", []int{value}, width, []int{value}, api.OK)
		}
		for _, wrong := range notValues {
			for at := range 5 {
				expectSmooth(t, "a value", slices.Insert(repeat(7, 4), at, wrong), width, nil, api.ErrRange)
			}
			expectSmooth(t, "a value, and too many", append(repeat(7, api.MaxList), wrong), width, nil, api.ErrRange)
			expectSmooth(t, "a value, and many too many", append([]int{wrong}, repeat(7, 3*api.MaxList)...), width, nil, api.ErrRange)
		}
		expectSmooth(t, "one too many", repeat(7, api.MaxList+1), width, nil, api.ErrLimit)
		expectSmooth(t, "many too many", repeat(7, 3*api.MaxList), width, nil, api.ErrLimit)
		expectSmooth(t, "as many as permitted", repeat(7, api.MaxList), width, repeat(7, api.MaxList), api.OK)
	}
	for _, width := range notWidths {
		expectSmooth(t, "a width without values", nil, width, nil, api.ErrRange)
		expectSmooth(t, "a width", []int{7, 9}, width, nil, api.ErrRange)
		expectSmooth(t, "a width and a value", []int{math.MinInt}, width, nil, api.ErrRange)
		expectSmooth(t, "a width, and too many", repeat(7, api.MaxList+1), width, nil, api.ErrRange)
	}
}

// P9.3
func TestSpreadOfNamedCases(t *testing.T) {
	for name, c := range map[string]struct {
		total         int
		weights, want []int
		code          api.Errno
	}{
		"equal weights":           {10, []int{1, 1, 1}, []int{4, 3, 3}, api.OK},
		"the greatest remainder":  {7, []int{5, 10}, []int{2, 5}, api.OK},
		"nothing":                 {0, []int{5, 10}, []int{0, 0}, api.OK},
		"nothing without weights": {0, nil, nil, api.OK},
		"a total below 0":         {-1, []int{1}, nil, api.ErrRange},
		"a total too great":       {api.MaxVolume + 1, []int{1}, nil, api.ErrRange},
		"a weight below 0":        {7, []int{1, -1}, nil, api.ErrRange},
		"a weight too great":      {7, []int{api.MaxWeight + 1}, nil, api.ErrRange},
		"too many weights":        {7, repeat(1, api.MaxList+1), nil, api.ErrLimit},
		"no weights":              {7, nil, nil, api.ErrZero},
		"weights of 0":            {7, []int{0, 0}, nil, api.ErrZero},
	} {
		if shares, code := inflow.Spread(c.total, c.weights); !slices.Equal(shares, c.want) || code != c.code {
			t.Errorf("%s: Spread = %v, %d; want %v, %d", name, shares, code, c.want, c.code)
		}
	}
}

// P9.3: Spread is quantity.Share.
func TestSpreadIsShare(t *testing.T) {
	numbers := &samples.Sequence{}
	for range 3000 {
		total := []int{numbers.Below(20), numbers.Below(5000), api.MaxVolume + 5 - numbers.Below(1000), -1}[numbers.Below(4)]
		weights := make([]int, numbers.Below(12))
		for i := range weights {
			weights[i] = numbers.Below([]int{1, 4, api.MaxWeight + 2}[numbers.Below(3)])
		}
		shares, code := inflow.Spread(total, weights)
		if want, wantCode := quantity.Share(total, weights); !slices.Equal(shares, want) || code != wantCode {
			t.Errorf("Spread of %d by %v = %v, %d; Share is %v, %d", total, weights, shares, code, want, wantCode)
		}
	}
}

// R2: what is passed in stays as it is, also around it where the slice has room.
func TestArgumentsAreNotChanged(t *testing.T) {
	volumes, allVolumes := samples.Window([]int{100, 90, 3, 95, 1, 96}, 1000)
	out, allOut := samples.Window([]int{30, 0, 4, 9, 7, 1}, 1001)
	volumesBefore, outBefore := slices.Clone(allVolumes), slices.Clone(allOut)
	for count := range len(volumes) + 1 {
		for steps := range len(out) + 1 {
			inflow.Check(volumes[:count], out[:steps])
			inflow.Balance(volumes[:count], out[:steps])
			inflow.Uncertain(volumes[:count], out[:steps], 5)
			inflow.Uncertain(volumes[:count], out[:steps], -1)
		}
		for _, width := range []int{0, 1, 2, 4, api.MaxList} {
			inflow.Smooth(volumes[:count], width)
		}
		inflow.Spread(17, volumes[:count])
	}
	if !slices.Equal(allVolumes, volumesBefore) || !slices.Equal(allOut, outBefore) {
		t.Errorf("%v, %v: arguments were changed", allVolumes, allOut)
	}
}

// R2, R4: results are new memory, each its own, and nothing is kept of arguments that are changed afterwards.
func TestResultsAreNewMemory(t *testing.T) {
	volumes, out := []int{100, 90, 95}, []int{30, 5}
	balance, _ := inflow.Balance(volumes, out)
	uncertain, _ := inflow.Uncertain(volumes, out, 1)
	smoothed, _ := inflow.Smooth(out, 1)
	shares, _ := inflow.Spread(35, out)
	balanceAgain, _ := inflow.Balance(volumes, out)
	uncertainAgain, _ := inflow.Uncertain(volumes, out, 1)
	smoothedAgain, _ := inflow.Smooth(out, 1)
	sharesAgain, _ := inflow.Spread(35, out)
	volumes[1], out[0] = 80, 7
	balanceAgain[0], uncertainAgain[0], smoothedAgain[0], sharesAgain[0] = 99, bounds(98, 99), 99, 99
	if !slices.Equal(balance, []int{20, 10}) || !slices.Equal(uncertain, []api.Bounds{bounds(18, 22), bounds(8, 12)}) {
		t.Errorf("%v, %v: inflows changed with an argument, or with another result", balance, uncertain)
	}
	if !slices.Equal(smoothed, []int{30, 5}) || !slices.Equal(shares, []int{30, 5}) {
		t.Errorf("%v, %v: values changed with an argument, or with another result", smoothed, shares)
	}
	expectBalance(t, "changed arguments", volumes, out, []int{-13, 20})
	expectUncertain(t, "changed arguments", volumes, out, 1, []api.Bounds{bounds(-15, -11), bounds(18, 22)}, api.OK)
	expectSmooth(t, "changed arguments", out, 2, []int{6, 6}, api.OK)
}
