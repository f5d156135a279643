package curve_test

import (
	"math"
	"math/big"
	"slices"
	"testing"

	"hydrocascade/api"
	"hydrocascade/curve"
	"hydrocascade/samples"
)

// through is short, because the tables consist of it.
var through = samples.Through

// flat returns so many points from first on, each so many to the right of the one before, all with the same Y.
func flat(count, first, apart, y int) []api.Point {
	points := make([]api.Point, count)
	for i := range points {
		points[i] = api.Point{X: first + i*apart, Y: y}
	}
	return points
}

// withLast returns the points with another last one.
func withLast(points []api.Point, last api.Point) []api.Point {
	points[len(points)-1] = last
	return points
}

// validCases are curves at the ends of what the definition permits.
func validCases() map[string][]api.Point {
	return map[string][]api.Point{
		"the chapter's example":                           through(0, 0, 3, 10),
		"one point":                                       through(5, 7),
		"one point of zeros":                              through(0, 0),
		"one point of the greatest X and Y":               through(api.MaxFlow, api.MaxVolume),
		"Y that stays":                                    through(3, 5, 4, 5, 9, 5),
		"as many points as permitted":                     flat(api.MaxPoints, 0, 1, 3),
		"the greatest difference of X":                    through(0, 0, api.MaxFlow, 1<<32),
		"the greatest difference of Y":                    through(0, 0, 1<<24, api.MaxVolume),
		"the greatest product behind other points":        through(0, 0, 1, 9, 1+1<<26, 9+1<<36),
		"the greatest X, and no rise":                     through(0, api.MaxVolume, api.MaxFlow, api.MaxVolume),
		"the greatest product, twice, one behind another": through(0, 0, 1<<26, 1<<36, 1<<27, 1<<37),
		"the product of all of it would be too great":     through(0, 0, 1<<24, 1<<37, 1<<25, api.MaxVolume),
		"the greatest product with the X 2 ** 30 - 1":     through(0, 0, 1<<30-1, 1<<32+4),
	}
}

// refusedCases are curves that are not valid, with the first of their errors.
func refusedCases() map[string]struct {
	curve []api.Point
	code  api.Errno
} {
	tooMany := api.MaxPoints + 1
	return map[string]struct {
		curve []api.Point
		code  api.Errno
	}{
		"no points":       {nil, api.ErrForm},
		"an empty slice":  {[]api.Point{}, api.ErrForm},
		"too many points": {flat(tooMany, 0, 1, 0), api.ErrLimit},
		"too many points, all of them out of range":          {flat(tooMany, -1, 0, -1), api.ErrLimit},
		"too many points, out of order":                      {flat(tooMany, 9, 0, 0), api.ErrLimit},
		"X below 0":                                          {through(-1, 0), api.ErrRange},
		"X above the greatest":                               {through(api.MaxFlow+1, 0), api.ErrRange},
		"Y below 0":                                          {through(0, -1), api.ErrRange},
		"Y above the greatest":                               {through(0, api.MaxVolume+1), api.ErrRange},
		"the least int as X":                                 {through(math.MinInt, 0), api.ErrRange},
		"the greatest int as X":                              {through(math.MaxInt, 0), api.ErrRange},
		"the least int as Y":                                 {through(0, math.MinInt), api.ErrRange},
		"the greatest int as Y":                              {through(0, math.MaxInt), api.ErrRange},
		"the last of many points out of range":               {withLast(flat(api.MaxPoints, 0, 1, 3), api.Point{X: api.MaxPoints, Y: -1}), api.ErrRange},
		"X that stays":                                       {through(3, 0, 3, 1), api.ErrOrder},
		"X that descends":                                    {through(3, 0, 2, 1), api.ErrOrder},
		"a point twice":                                      {through(3, 4, 3, 4), api.ErrOrder},
		"Y that descends":                                    {through(3, 5, 4, 4), api.ErrOrder},
		"X and Y that descend":                               {through(3, 5, 2, 4), api.ErrOrder},
		"the last of many points out of order":               {withLast(flat(api.MaxPoints, 0, 1, 3), api.Point{X: api.MaxPoints, Y: 2}), api.ErrOrder},
		"a point out of range and of order":                  {through(3, 5, 2, -1), api.ErrRange},
		"X out of range, Y out of order":                     {through(3, 5, api.MaxFlow+1, 4), api.ErrRange},
		"a point out of order before one of range":           {through(3, 5, 4, 4, -1, 0), api.ErrOrder},
		"a point out of range before one of order":           {through(3, 5, 4, -1, 4, 0), api.ErrRange},
		"a product just too great":                           {through(0, 0, 1<<24+1, 1<<38), api.ErrRange},
		"a product just too great by Y":                      {through(0, 0, 1<<30, 1<<32+1), api.ErrRange},
		"the least with the X 2 ** 30 - 1 that is too great": {through(0, 0, 1<<30-1, 1<<32+5), api.ErrRange},
		"a product of 2 ** 62 + 1":                           {through(0, 0, 429509837, 10737090565), api.ErrRange},
		"a product that is negative as an int":               {through(0, 0, 1<<25, 1<<38), api.ErrRange},
		"a product that is 0 as an int":                      {through(0, 0, 1<<26, 1<<38), api.ErrRange},
		"the greatest product that points can have":          {through(0, 0, 1<<30, 1<<38), api.ErrRange},
		"a product that is small and positive so":            {through(0, 0, 1<<30, 1<<34+1), api.ErrRange},
		"a product too great before a bad order":             {through(0, 0, 1<<25, 1<<38, 3, 3), api.ErrRange},
		"a bad order before a product too great":             {through(9, 9, 9, 9, 1<<25, 1<<38), api.ErrOrder},
		"a bad order in a line whose product is big":         {through(1<<25, 0, 0, 1<<38), api.ErrOrder},
		"a product too great behind a line that is not":      {through(0, 0, 1, 1, 1<<25, 1<<38), api.ErrRange},
	}
}

// P2.1
func TestCheckPermitsValidCurves(t *testing.T) {
	for name, points := range validCases() {
		if code := curve.Check(points); code != api.OK {
			t.Errorf("%s: error %d", name, code)
		}
	}
}

// P2.1 to P2.4, R3, R5: whatever else the arguments are, an invalid curve decides, and the other results are zero.
func TestInvalidCurvesAreRefusedInOrder(t *testing.T) {
	for name, c := range refusedCases() {
		if code := curve.Check(c.curve); code != c.code {
			t.Errorf("%s: Check: error %d; want %d", name, code, c.code)
		}
		for _, n := range []int{math.MinInt, -1, 0, 3, api.MaxVolume, math.MaxInt} {
			if value, code := curve.At(c.curve, n); value != 0 || code != c.code {
				t.Errorf("%s: At(%d) = %d, %d; want 0, %d", name, n, value, code, c.code)
			}
			if x, is, code := curve.First(c.curve, n); x != 0 || is || code != c.code {
				t.Errorf("%s: First(%d) = %d, %t, %d; want 0, false, %d", name, n, x, is, code, c.code)
			}
			if x, is, code := curve.Last(c.curve, n); x != 0 || is || code != c.code {
				t.Errorf("%s: Last(%d) = %d, %t, %d; want 0, false, %d", name, n, x, is, code, c.code)
			}
		}
		valid := through(2, 3)
		if sum, code := curve.Add(c.curve, valid); len(sum) != 0 || code != c.code {
			t.Errorf("%s: Add as a = %v, %d; want %d", name, sum, code, c.code)
		}
		if sum, code := curve.Add(valid, c.curve); len(sum) != 0 || code != c.code {
			t.Errorf("%s: Add as b = %v, %d; want %d", name, sum, code, c.code)
		}
	}
}

// P2.2
func TestAtOfNamedCases(t *testing.T) {
	for _, c := range []struct {
		name  string
		curve []api.Point
		wants [][2]int
	}{
		{"the chapter's example", through(0, 0, 3, 10), [][2]int{{0, 0}, {1, 3}, {2, 6}, {3, 10}}},
		{"before the first point and behind the last one", through(10, 5, 13, 15), [][2]int{{math.MinInt, 5}, {-1, 5}, {0, 5}, {9, 5}, {10, 5}, {13, 15}, {14, 15}, {math.MaxInt, 15}}},
		{"one point", through(4, 7), [][2]int{{math.MinInt, 7}, {3, 7}, {4, 7}, {5, 7}, {math.MaxInt, 7}}},
		{"lines that are rounded down", through(10, 5, 13, 15, 20, 15, 24, 16), [][2]int{{11, 8}, {12, 11}, {17, 15}, {21, 15}, {23, 15}, {24, 16}}},
		{"a part on which the value does not change", through(0, 1, 5, 4, 9, 4, 10, 6), [][2]int{{4, 3}, {5, 4}, {6, 4}, {8, 4}, {9, 4}, {10, 6}}},
		{"the greatest product", through(0, 0, 1<<24, 1<<38), [][2]int{{1, 1 << 14}, {1<<24 - 1, 1<<38 - 1<<14}, {1 << 24, 1 << 38}}},
		{"the greatest X and Y", through(api.MaxFlow-2, api.MaxVolume-3, api.MaxFlow, api.MaxVolume), [][2]int{{api.MaxFlow - 1, api.MaxVolume - 2}, {api.MaxFlow, api.MaxVolume}}},
	} {
		for _, want := range c.wants {
			if got, code := curve.At(c.curve, want[0]); got != want[1] || code != api.OK {
				t.Errorf("%s: At(%d) = %d, %d; want %d", c.name, want[0], got, code, want[1])
			}
		}
	}
}

// found is what First or Last should return.
type found struct {
	x  int
	is bool
}

// P2.3
func TestFirstAndLastOfNamedCases(t *testing.T) {
	none := found{}
	steps := through(10, 5, 13, 15, 20, 15, 24, 16)
	for _, c := range []struct {
		name        string
		curve       []api.Point
		y           int
		first, last found
	}{
		{"the chapter's example, between values", through(0, 0, 3, 10), 4, found{2, true}, found{1, true}},
		{"the chapter's example, at a value", through(0, 0, 3, 10), 3, found{1, true}, found{1, true}},
		{"the chapter's example, at the first value", through(0, 0, 3, 10), 0, found{0, true}, found{0, true}},
		{"the chapter's example, at the last value", through(0, 0, 3, 10), 10, found{3, true}, found{3, true}},
		{"no value is so small", steps, 4, found{10, true}, none},
		{"no value is so small by far", steps, math.MinInt, found{10, true}, none},
		{"the least value", steps, 5, found{10, true}, found{10, true}},
		{"just above the least value", steps, 6, found{11, true}, found{10, true}},
		{"a part on which the value does not change", steps, 15, found{13, true}, found{23, true}},
		{"just below this part", steps, 14, found{13, true}, found{12, true}},
		{"the greatest value", steps, 16, found{24, true}, found{24, true}},
		{"no value is so great", steps, 17, none, found{24, true}},
		{"no value is so great by far", steps, math.MaxInt, none, found{24, true}},
		{"a start on which the value does not change", through(2, 3, 5, 3, 6, 4), 3, found{2, true}, found{5, true}},
		{"an end on which the value does not change", through(2, 3, 5, 8, 9, 8), 8, found{5, true}, found{9, true}},
		{"one point, its value", through(4, 7), 7, found{4, true}, found{4, true}},
		{"one point, less", through(4, 7), 6, found{4, true}, none},
		{"one point, more", through(4, 7), 8, none, found{4, true}},
		{"a point of zeros, less", through(0, 0), -1, found{0, true}, none},
		{"a point of zeros, more", through(0, 0), 1, none, found{0, true}},
		{"the greatest product", through(0, 0, 1<<24, 1<<38), 1<<38 - 1, found{1 << 24, true}, found{1<<24 - 1, true}},
		{"the greatest product, early", through(0, 0, 1<<24, 1<<38), 1, found{1, true}, found{0, true}},
		{"the greatest product, wide", through(0, 0, 1<<30, 1<<32), 1<<32 - 4, found{1<<30 - 1, true}, found{1<<30 - 1, true}},
	} {
		if x, is, code := curve.First(c.curve, c.y); (found{x, is}) != c.first || code != api.OK {
			t.Errorf("%s: First(%d) = %d, %t, %d; want %v", c.name, c.y, x, is, code, c.first)
		}
		if x, is, code := curve.Last(c.curve, c.y); (found{x, is}) != c.last || code != api.OK {
			t.Errorf("%s: Last(%d) = %d, %t, %d; want %v", c.name, c.y, x, is, code, c.last)
		}
	}
}

// greatCurve returns a valid curve of lines whose products are near the greatest.
func greatCurve(numbers *samples.Sequence) []api.Point {
	points := through(numbers.Below(4), numbers.Below(5))
	for range 1 + numbers.Below(4) {
		end := points[len(points)-1]
		right := 1 + numbers.Below(1<<(1+numbers.Below(27)))
		up := min(1<<62/right, 1<<36) - 1 - numbers.Below(3)
		points = append(points, api.Point{X: end.X + right, Y: end.Y + up})
	}
	return points
}

// exactValue is the value at x by the promise, found line by line with numbers of any length.
func exactValue(points []api.Point, x int) int {
	if x <= points[0].X {
		return points[0].Y
	}
	for i, to := range points[1:] {
		from := points[i]
		if x > to.X {
			continue
		}
		product := new(big.Int).Mul(big.NewInt(int64(x-from.X)), big.NewInt(int64(to.Y-from.Y)))
		return from.Y + int(product.Quo(product, big.NewInt(int64(to.X-from.X))).Int64())
	}
	return points[len(points)-1].Y
}

// P2.2, and the consequence that values do not fall.
func TestAtIsExactAndDoesNotFall(t *testing.T) {
	numbers := &samples.Sequence{}
	for range 500 {
		small, great := samples.SmallCurve(numbers), greatCurve(numbers)
		before := -1
		for x := -2; x <= small[len(small)-1].X+2; x++ {
			got, code := curve.At(small, x)
			if want := exactValue(small, x); got != want || code != api.OK {
				t.Fatalf("%v: At(%d) = %d, %d; want %d", small, x, got, code, want)
			}
			if got < before {
				t.Fatalf("%v: At(%d) = %d is less than %d before it", small, x, got, before)
			}
			before = got
		}
		for range 20 {
			x := numbers.Below(great[len(great)-1].X + 3)
			got, code := curve.At(great, x)
			if want := exactValue(great, x); got != want || code != api.OK {
				t.Fatalf("%v: At(%d) = %d, %d; want %d", great, x, got, code, want)
			}
		}
	}
}

// searched looks at each x of a curve for what First and Last should return.
func searched(points []api.Point, y int) (first, last found) {
	for x := points[0].X; x <= points[len(points)-1].X; x++ {
		value := exactValue(points, x)
		if value >= y && !first.is {
			first = found{x, true}
		}
		if value <= y {
			last = found{x, true}
		}
	}
	return first, last
}

// P2.3 against a look at each x, and the consequence that from First on all values are at least y.
func TestFirstAndLastFindWhatALookAtEachXFinds(t *testing.T) {
	numbers := &samples.Sequence{}
	for range 1000 {
		points := samples.SmallCurve(numbers)
		for y := -2; y <= points[len(points)-1].Y+2; y++ {
			first, last := searched(points, y)
			x, is, code := curve.First(points, y)
			if (found{x, is}) != first || code != api.OK {
				t.Fatalf("%v: First(%d) = %d, %t, %d; want %v", points, y, x, is, code, first)
			}
			for behind := x; is && behind <= points[len(points)-1].X+2; behind++ {
				if value, _ := curve.At(points, behind); value < y {
					t.Fatalf("%v: First(%d) is %d, but At(%d) is %d", points, y, x, behind, value)
				}
			}
			if x, is, code := curve.Last(points, y); (found{x, is}) != last || code != api.OK {
				t.Fatalf("%v: Last(%d) = %d, %t, %d; want %v", points, y, x, is, code, last)
			}
		}
	}
}

// P2.3 where products are great: the values on both sides of what is found decide.
func TestFirstAndLastAreExactOfGreatCurves(t *testing.T) {
	numbers := &samples.Sequence{}
	for range 1000 {
		points := greatCurve(numbers)
		start, end := points[0], points[len(points)-1]
		for range 20 {
			near := exactValue(points, numbers.Below(end.X+1))
			y := min(max(start.Y, near-1+numbers.Below(3)), end.Y)
			first, is, code := curve.First(points, y)
			if !is || code != api.OK || first < start.X || first > end.X || exactValue(points, first) < y || first > start.X && exactValue(points, first-1) >= y {
				t.Fatalf("%v: First(%d) = %d, %t, %d", points, y, first, is, code)
			}
			last, is, code := curve.Last(points, y)
			if !is || code != api.OK || last < start.X || last > end.X || exactValue(points, last) > y || last < end.X && exactValue(points, last+1) <= y {
				t.Fatalf("%v: Last(%d) = %d, %t, %d", points, y, last, is, code)
			}
		}
	}
}

// P2.4
func TestAddOfNamedCases(t *testing.T) {
	for _, c := range []struct {
		name       string
		a, b, want []api.Point
	}{
		{"points of both in turn", through(0, 0, 10, 10), through(5, 1, 7, 2), through(0, 1, 5, 6, 7, 9, 10, 12)},
		{"one point each, at the same X", through(3, 4), through(3, 5), through(3, 9)},
		{"one point each, at two X", through(3, 4), through(1, 5), through(1, 9, 3, 9)},
		{"values that are rounded down", through(0, 0, 3, 10), through(1, 0, 2, 0), through(0, 0, 1, 3, 2, 6, 3, 10)},
		{"all points shared", through(0, 1, 4, 2), through(0, 3, 4, 5), through(0, 4, 4, 7)},
		{"a curve and itself", through(2, 1, 5, 9), through(2, 1, 5, 9), through(2, 2, 5, 18)},
		{"the first point shared", through(1, 1, 4, 4), through(1, 2, 3, 6), through(1, 3, 3, 9, 4, 10)},
		{"the last point shared", through(1, 1, 4, 4), through(2, 2, 4, 6), through(1, 3, 2, 4, 4, 10)},
		{"a point shared in the middle", through(0, 0, 4, 4, 9, 9), through(1, 1, 4, 1, 7, 4), through(0, 1, 1, 2, 4, 5, 7, 11, 9, 13)},
		{"one behind the other", through(0, 1, 2, 3), through(5, 10, 8, 13), through(0, 11, 2, 13, 5, 13, 8, 16)},
		{"points on a line stay", through(0, 0, 1, 1, 2, 2), through(0, 0), through(0, 0, 1, 1, 2, 2)},
		{"the greatest Y", through(0, api.MaxVolume-1), through(api.MaxFlow, 1), through(0, api.MaxVolume, api.MaxFlow, api.MaxVolume)},
		{"the greatest product", through(0, 0, 1<<24, 1<<37), through(0, 0, 1<<24, 1<<37), through(0, 0, 1<<24, 1<<38)},
	} {
		if got, code := curve.Add(c.a, c.b); !slices.Equal(got, c.want) || code != api.OK {
			t.Errorf("%s: %v, %d; want %v", c.name, got, code, c.want)
		}
		if got, code := curve.Add(c.b, c.a); !slices.Equal(got, c.want) || code != api.OK {
			t.Errorf("%s, turned around: %v, %d; want %v", c.name, got, code, c.want)
		}
	}
}

// P2.4 at the limit of points.
func TestAddTakesAsManyPointsAsPermitted(t *testing.T) {
	half := api.MaxPoints / 2
	even, odd := flat(half, 0, 2, 3), flat(half, 1, 2, 4)
	if got, code := curve.Add(even, odd); !slices.Equal(got, flat(api.MaxPoints, 0, 1, 7)) || code != api.OK {
		t.Errorf("points in turn: %v, %d", got, code)
	}
	full := flat(api.MaxPoints, 0, 1, 3)
	if got, code := curve.Add(full, full); !slices.Equal(got, flat(api.MaxPoints, 0, 1, 6)) || code != api.OK {
		t.Errorf("shared points: %v, %d", got, code)
	}
}

// P2.4, R3, R5: first a, then b, then the result.
func TestAddRefusesInvalidInputsInOrder(t *testing.T) {
	full := flat(api.MaxPoints, 0, 1, 0)
	high := flat(api.MaxPoints, 0, 1, api.MaxVolume)
	valid := through(0, 1)
	for _, c := range []struct {
		name string
		a, b []api.Point
		code api.Errno
	}{
		{"a has no points, b is out of range", nil, through(-1, 0), api.ErrForm},
		{"a is out of range, b has no points", through(-1, 0), nil, api.ErrRange},
		{"a is out of order, b has too many points", through(3, 3, 2, 3), flat(api.MaxPoints+1, 0, 1, 0), api.ErrOrder},
		{"a has too many points, b is out of order", flat(api.MaxPoints+1, 0, 1, 0), through(3, 3, 2, 3), api.ErrLimit},
		{"both have no points", nil, []api.Point{}, api.ErrForm},
		{"b is out of order, the result would be too high", through(9, api.MaxVolume), through(3, 3, 3, 3), api.ErrOrder},
		{"the result has a point too many", full, through(api.MaxPoints, 0), api.ErrLimit},
		{"the result has twice as many points", full, flat(api.MaxPoints, api.MaxPoints, 1, 0), api.ErrLimit},
		{"the result has too many points and is too high", high, through(api.MaxPoints, 1), api.ErrLimit},
		{"the result is too high by 1", through(0, api.MaxVolume), valid, api.ErrRange},
		{"the result is too high at its end", through(0, 0, 9, api.MaxVolume), through(0, 0, 9, 1), api.ErrRange},
		{"the result is as high as two curves can be", high, high, api.ErrRange},
		{"the result has a product that is too great by 2 ** 25", through(0, 0, 1<<25, 1<<36), through(0, 0, 1<<25, 1<<36+1), api.ErrRange},
		{"the result has a product that is as great as two curves can make it", through(0, 0, 1<<30, 1<<32), through(0, 0, 1<<30, 1<<32), api.ErrRange},
	} {
		if got, code := curve.Add(c.a, c.b); len(got) != 0 || code != c.code {
			t.Errorf("%s: %d points, error %d; want none, %d", c.name, len(got), code, c.code)
		}
	}
}

// P2.4 by its definition, and the consequence that At of the sum differs from the sum of both by at most 1.
func TestAddHasTheSumsAtAllPointsAndIsNearThemInBetween(t *testing.T) {
	numbers := &samples.Sequence{}
	for range 2000 {
		a, b := samples.SmallCurve(numbers), samples.SmallCurve(numbers)
		beforeA, beforeB := slices.Clone(a), slices.Clone(b)
		got, code := curve.Add(a, b)
		var want []api.Point
		most := max(a[len(a)-1].X, b[len(b)-1].X)
		for x := 0; x <= most; x++ {
			hasX := func(p api.Point) bool { return p.X == x }
			if slices.ContainsFunc(a, hasX) || slices.ContainsFunc(b, hasX) {
				want = append(want, api.Point{X: x, Y: exactValue(a, x) + exactValue(b, x)})
			}
		}
		if !slices.Equal(got, want) || code != api.OK {
			t.Fatalf("Add(%v, %v) = %v, %d; want %v", a, b, got, code, want)
		}
		for x := -1; x <= most+1; x++ {
			sum := exactValue(a, x) + exactValue(b, x)
			if value, code := curve.At(got, x); value < sum-1 || value > sum+1 || code != api.OK {
				t.Fatalf("Add(%v, %v) is %d, %d at %d, where both add up to %d", a, b, value, code, x, sum)
			}
		}
		if !slices.Equal(a, beforeA) || !slices.Equal(b, beforeB) {
			t.Fatalf("Add changed its arguments: %v, %v", a, b)
		}
	}
}

// R2: a result is new memory, also where a curve has room behind its end.
func TestAddResultIsNewMemory(t *testing.T) {
	roomy := append(make([]api.Point, 0, 10), through(0, 1, 4, 3)...)
	first, _ := curve.Add(roomy, through(2, 0))
	second, _ := curve.Add(roomy, through(2, 0))
	first[0] = api.Point{X: 99, Y: 99}
	if want := through(0, 1, 2, 2, 4, 3); !slices.Equal(second, want) {
		t.Error("two results share memory:", second)
	}
	if !slices.Equal(roomy, through(0, 1, 4, 3)) || roomy[:3][2] != (api.Point{}) {
		t.Error("a result shares memory with an argument:", roomy[:3])
	}
}

// R2: what is only looked at stays as it is.
func TestLookingAtACurveDoesNotChangeIt(t *testing.T) {
	points := through(3, 1, 5, 8, 9, 8)
	before := slices.Clone(points)
	curve.Check(points)
	curve.At(points, 4)
	curve.First(points, 5)
	curve.Last(points, 5)
	if !slices.Equal(points, before) {
		t.Errorf("%v became %v", before, points)
	}
}
