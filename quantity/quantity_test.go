package quantity_test

import (
	"math"
	"math/big"
	"slices"
	"testing"

	"hydrocascade/api"
	"hydrocascade/quantity"
	"hydrocascade/samples"
)

// edges are numbers at which a range, a sign or the width of an int ends.
var edges = []int{
	math.MinInt, math.MinInt + 1, math.MinInt / 2, -api.MaxVolume - 1, -api.MaxVolume, -api.MaxLevel, -7, -3, -2, -1,
	0, 1, 2, 3, 7, 10, api.MaxWeight, api.MaxWeight + 1, api.MaxLevel, api.MaxLevel + 1, api.MaxVolume - 1, api.MaxVolume, api.MaxVolume + 1, math.MaxInt / 2, math.MaxInt - 1, math.MaxInt,
}

// floorOf is the exact floor of a / b, found with numbers of any length; b is not 0.
func floorOf(a, b *big.Int) *big.Int {
	quotient, rest := new(big.Int).QuoRem(a, b, new(big.Int))
	if rest.Sign() != 0 && rest.Sign() != b.Sign() {
		quotient.Sub(quotient, big.NewInt(1))
	}
	return quotient
}

func whole(n int) *big.Int { return big.NewInt(int64(n)) }

// P1.1
func TestFloorOfNamedCases(t *testing.T) {
	for _, c := range []struct {
		a, b, want int
		code       api.Errno
	}{
		{7, 2, 3, api.OK},
		{-7, 2, -4, api.OK},
		{7, -2, -4, api.OK},
		{-7, -2, 3, api.OK},
		{-8, 2, -4, api.OK},
		{8, -2, -4, api.OK},
		{-8, -2, 4, api.OK},
		{-1, math.MaxInt, -1, api.OK},
		{1, math.MinInt, -1, api.OK},
		{-1, math.MinInt, 0, api.OK},
		{0, -5, 0, api.OK},
		{math.MinInt, 1, math.MinInt, api.OK},
		{math.MinInt, math.MinInt, 1, api.OK},
		{math.MinInt, math.MaxInt, -2, api.OK},
		{math.MaxInt, -1, -math.MaxInt, api.OK},
		{math.MinInt, -2, 1 << 62, api.OK},
		{math.MinInt, -1, 0, api.ErrRange},
		{math.MinInt, 0, 0, api.ErrZero},
		{0, 0, 0, api.ErrZero},
		{5, 0, 0, api.ErrZero},
	} {
		if got, code := quantity.Floor(c.a, c.b); got != c.want || code != c.code {
			t.Errorf("Floor(%d, %d) = %d, %d; want %d, %d", c.a, c.b, got, code, c.want, c.code)
		}
	}
}

// P1.1
func TestFloorIsExactAtAllEdges(t *testing.T) {
	for _, a := range edges {
		for _, b := range edges {
			got, code := quantity.Floor(a, b)
			if b == 0 {
				if got != 0 || code != api.ErrZero {
					t.Errorf("Floor(%d, 0) = %d, %d", a, got, code)
				}
				continue
			}
			exact := floorOf(whole(a), whole(b))
			if !exact.IsInt64() {
				if got != 0 || code != api.ErrRange {
					t.Errorf("Floor(%d, %d) = %d, %d; want ErrRange", a, b, got, code)
				}
				continue
			}
			if got != int(exact.Int64()) || code != api.OK {
				t.Errorf("Floor(%d, %d) = %d, %d; want %v", a, b, got, code, exact)
			}
		}
	}
}

// P1.2
func TestScaleOfNamedCases(t *testing.T) {
	for _, c := range []struct {
		a, num, den, want int
		code              api.Errno
	}{
		{10, 3, 4, 7, api.OK},
		{8, 3, 4, 6, api.OK},
		{0, 0, 1, 0, api.OK},
		{5, 1, math.MaxInt, 0, api.OK},
		{api.MaxVolume, api.MaxLevel, 1, 1 << 62, api.OK},
		{api.MaxVolume, api.MaxLevel, 1 << 62, 1, api.OK},
		{api.MaxVolume, api.MaxLevel, 1<<62 + 1, 0, api.OK},
		{api.MaxVolume, api.MaxLevel, 3, 1 << 62 / 3, api.OK},
		{-1, 1, 1, 0, api.ErrRange},
		{api.MaxVolume + 1, 1, 1, 0, api.ErrRange},
		{1, -1, 1, 0, api.ErrRange},
		{1, api.MaxLevel + 1, 1, 0, api.ErrRange},
		{math.MinInt, math.MaxInt, math.MinInt, 0, api.ErrRange},
		{1, 1, 0, 0, api.ErrZero},
		{1, 1, -1, 0, api.ErrZero},
		{0, 0, 0, 0, api.ErrZero},
		{1, 1, math.MinInt, 0, api.ErrZero},
	} {
		if got, code := quantity.Scale(c.a, c.num, c.den); got != c.want || code != c.code {
			t.Errorf("Scale(%d, %d, %d) = %d, %d; want %d, %d", c.a, c.num, c.den, got, code, c.want, c.code)
		}
	}
}

// P1.2
func TestScaleIsExactAtAllEdges(t *testing.T) {
	for _, a := range edges {
		for _, num := range edges {
			for _, den := range edges {
				got, code := quantity.Scale(a, num, den)
				want, wantCode := 0, api.OK
				switch {
				case a < 0 || a > api.MaxVolume || num < 0 || num > api.MaxLevel:
					wantCode = api.ErrRange
				case den < 1:
					wantCode = api.ErrZero
				default:
					want = int(floorOf(new(big.Int).Mul(whole(a), whole(num)), whole(den)).Int64())
				}
				if got != want || code != wantCode {
					t.Errorf("Scale(%d, %d, %d) = %d, %d; want %d, %d", a, num, den, got, code, want, wantCode)
				}
			}
		}
	}
}

// P1.3
func TestShareOfNamedCases(t *testing.T) {
	for _, c := range []struct {
		name    string
		amount  int
		weights []int
		want    []int
	}{
		{"the chapter's example", 10, []int{1, 1, 1}, []int{4, 3, 3}},
		{"nothing is left over", 12, []int{1, 2, 3}, []int{2, 4, 6}},
		{"the greatest remainder is not the first", 7, []int{5, 10}, []int{2, 5}},
		{"the greatest remainder is not that of the greatest weight", 5, []int{3, 7}, []int{2, 3}},
		{"equal remainders behind a smaller one", 2, []int{1, 2, 2, 2}, []int{0, 1, 1, 0}},
		{"equal remainders, one left over", 11, []int{3, 3, 4, 0}, []int{3, 3, 5, 0}},
		{"less than there are weights", 2, []int{1, 1, 1, 1, 1}, []int{1, 1, 0, 0, 0}},
		{"weights of 0 get nothing", 5, []int{0, 3, 0}, []int{0, 5, 0}},
		{"weights of 0 get nothing of what is left over", 5, []int{0, 1, 0, 1, 0, 1}, []int{0, 2, 0, 2, 0, 1}},
		{"no weights and no amount", 0, nil, []int{}},
		{"empty weights and no amount", 0, []int{}, []int{}},
		{"weights that add up to 0 and no amount", 0, []int{0, 0}, []int{0, 0}},
		{"weights and no amount", 0, []int{5, 7, 9}, []int{0, 0, 0}},
		{"the greatest values", api.MaxVolume, []int{api.MaxWeight}, []int{api.MaxVolume}},
		{"the greatest values, divided", api.MaxVolume, []int{api.MaxWeight, api.MaxWeight, api.MaxWeight}, []int{91625968982, 91625968981, 91625968981}},
	} {
		if got, code := quantity.Share(c.amount, c.weights); !slices.Equal(got, c.want) || code != api.OK {
			t.Errorf("%s: Share(%d, %v) = %v, %d; want %v", c.name, c.amount, c.weights, got, code, c.want)
		}
	}
}

// withFirst returns so many weights, all of them 0 but the first one.
func withFirst(first, count int) []int {
	weights := make([]int, count)
	weights[0] = first
	return weights
}

// P1.3, R3, R5
func TestShareRefusesInvalidInputsInOrder(t *testing.T) {
	tooMany := api.MaxList + 1
	badLast := make([]int, tooMany)
	badLast[tooMany-1] = -1
	for _, c := range []struct {
		name    string
		amount  int
		weights []int
		code    api.Errno
	}{
		{"an amount below 0", -1, []int{1}, api.ErrRange},
		{"an amount above the greatest", api.MaxVolume + 1, []int{1}, api.ErrRange},
		{"the least int", math.MinInt, []int{1}, api.ErrRange},
		{"the greatest int", math.MaxInt, []int{1}, api.ErrRange},
		{"a bad amount and no weights", -1, nil, api.ErrRange},
		{"a bad amount and too many weights", -1, make([]int, tooMany), api.ErrRange},
		{"a weight below 0", 1, []int{1, -1}, api.ErrRange},
		{"a weight below 0, weights that add up to 0", 1, []int{1, -1, 0}, api.ErrRange},
		{"a weight above the greatest", 1, []int{1, api.MaxWeight + 1}, api.ErrRange},
		{"a bad weight and no amount", 0, []int{-1}, api.ErrRange},
		{"weights at the ends of int", 1, []int{math.MaxInt, math.MinInt, 1}, api.ErrRange},
		{"too many weights, the first bad", 1, withFirst(-1, tooMany), api.ErrRange},
		{"too many weights, the last bad", 1, badLast, api.ErrRange},
		{"too many weights", 1, withFirst(1, tooMany), api.ErrLimit},
		{"too many weights that add up to 0", 1, make([]int, tooMany), api.ErrLimit},
		{"too many weights and no amount", 0, make([]int, tooMany), api.ErrLimit},
		{"no weights", 5, nil, api.ErrZero},
		{"empty weights", 5, []int{}, api.ErrZero},
		{"weights that add up to 0", 5, []int{0, 0}, api.ErrZero},
		{"as many weights as permitted that add up to 0", 1, make([]int, api.MaxList), api.ErrZero},
	} {
		if got, code := quantity.Share(c.amount, c.weights); len(got) != 0 || code != c.code {
			t.Errorf("%s: %d shares, error %d; want none, %d", c.name, len(got), code, c.code)
		}
	}
}

// exactShares gives out what is left over one by one, each time to the greatest remainder that has got nothing yet.
func exactShares(amount int, weights []int) []int {
	total := new(big.Int)
	for _, weight := range weights {
		total.Add(total, whole(weight))
	}
	shares, remainders := make([]int, len(weights)), make([]*big.Int, len(weights))
	left := amount
	for i, weight := range weights {
		share, remainder := new(big.Int).QuoRem(new(big.Int).Mul(whole(amount), whole(weight)), total, new(big.Int))
		shares[i], remainders[i] = int(share.Int64()), remainder
		left -= shares[i]
	}
	for ; left > 0; left-- {
		best := 0
		for i, remainder := range remainders {
			if remainder.Cmp(remainders[best]) > 0 {
				best = i
			}
		}
		shares[best]++
		remainders[best] = big.NewInt(-1)
	}
	return shares
}

// P1.3 and the consequence that the shares add up to the amount.
func TestShareIsExactAndAddsUp(t *testing.T) {
	numbers := &samples.Sequence{}
	for range 3000 {
		weights := make([]int, 1+numbers.Below(12))
		most := []int{2, 4, 30, api.MaxWeight + 1}[numbers.Below(4)]
		for i := range weights {
			weights[i] = numbers.Below(most)
		}
		weights[numbers.Below(len(weights))] = 1
		amount := []int{numbers.Below(20), numbers.Below(5000), api.MaxVolume - numbers.Below(1000)}[numbers.Below(3)]
		before := slices.Clone(weights)
		got, code := quantity.Share(amount, weights)
		if want := exactShares(amount, weights); !slices.Equal(got, want) || code != api.OK {
			t.Fatalf("Share(%d, %v) = %v, %d; want %v", amount, weights, got, code, want)
		}
		total := 0
		for _, share := range got {
			total += share
		}
		if total != amount {
			t.Fatalf("Share(%d, %v) adds up to %d", amount, weights, total)
		}
		if !slices.Equal(weights, before) {
			t.Fatalf("Share changed its weights %v to %v", before, weights)
		}
	}
}

// P1.3 at its limit, where all remainders are equal.
func TestShareTakesAsManyWeightsAsPermitted(t *testing.T) {
	weights := make([]int, api.MaxList)
	for i := range weights {
		weights[i] = api.MaxWeight
	}
	got, code := quantity.Share(api.MaxVolume-1, weights)
	if code != api.OK || len(got) != len(weights) {
		t.Fatalf("%d shares, error %d", len(got), code)
	}
	each := api.MaxVolume / api.MaxList
	for i, share := range got {
		want := each
		if i == api.MaxList-1 {
			want = each - 1
		}
		if share != want {
			t.Fatalf("share %d is %d, not %d", i, share, want)
		}
	}
}

// R2: a result is new memory.
func TestShareResultIsNewMemory(t *testing.T) {
	weights := []int{1, 1}
	first, _ := quantity.Share(2, weights)
	second, _ := quantity.Share(2, weights)
	first[0] = 99
	if !slices.Equal(weights, []int{1, 1}) || !slices.Equal(second, []int{1, 1}) {
		t.Error("a result shares memory:", weights, second)
	}
}

// P1.4
func TestCarryOfNamedCases(t *testing.T) {
	for _, c := range []struct {
		amount, num, den, carry, want, rest int
		code                                api.Errno
	}{
		{10, 3, 4, 0, 7, 2, api.OK},
		{10, 3, 4, 1, 7, 3, api.OK},
		{10, 3, 4, 2, 8, 0, api.OK},
		{10, 3, 4, 3, 8, 1, api.OK},
		{0, 0, 1, 0, 0, 0, api.OK},
		{0, 0, 5, 4, 0, 4, api.OK},
		{api.MaxVolume, api.MaxLevel, 1, 0, 1 << 62, 0, api.OK},
		{api.MaxVolume, api.MaxLevel, api.MaxVolume, api.MaxVolume - 1, api.MaxLevel, api.MaxVolume - 1, api.OK},
		{-1, 3, 4, 0, 0, 0, api.ErrRange},
		{api.MaxVolume + 1, 3, 4, 0, 0, 0, api.ErrRange},
		{1, -1, 4, 0, 0, 0, api.ErrRange},
		{1, api.MaxLevel + 1, 4, 0, 0, 0, api.ErrRange},
		{1, 1, api.MaxVolume + 1, 0, 0, 0, api.ErrRange},
		{1, 1, math.MaxInt, 0, 0, 0, api.ErrRange},
		{-1, 1, 0, 9, 0, 0, api.ErrRange},
		{1, -1, -4, -9, 0, 0, api.ErrRange},
		{1, 1, api.MaxVolume + 1, -1, 0, 0, api.ErrRange},
		{1, 1, 0, 0, 0, 0, api.ErrZero},
		{1, 1, -1, 0, 0, 0, api.ErrZero},
		{1, 1, 0, -1, 0, 0, api.ErrZero},
		{1, 1, math.MinInt, math.MaxInt, 0, 0, api.ErrZero},
		{10, 3, 4, 4, 0, 0, api.ErrForm},
		{10, 3, 4, -1, 0, 0, api.ErrForm},
		{10, 3, 4, math.MinInt, 0, 0, api.ErrForm},
		{10, 3, 4, math.MaxInt, 0, 0, api.ErrForm},
		{0, 0, 1, 1, 0, 0, api.ErrForm},
	} {
		if got, rest, code := quantity.Carry(c.amount, c.num, c.den, c.carry); got != c.want || rest != c.rest || code != c.code {
			t.Errorf("Carry(%d, %d, %d, %d) = %d, %d, %d; want %d, %d, %d", c.amount, c.num, c.den, c.carry, got, rest, code, c.want, c.rest, c.code)
		}
	}
}

// P1.4
func TestCarryIsExactAtAllEdges(t *testing.T) {
	for _, amount := range edges {
		for _, num := range edges {
			for _, den := range edges {
				for _, carry := range []int{math.MinInt, -1, 0, 1, den - 1, den, math.MaxInt} {
					checkCarryAgainstExact(t, amount, num, den, carry)
				}
			}
		}
	}
}

func checkCarryAgainstExact(t *testing.T, amount, num, den, carry int) {
	t.Helper()
	want, wantRest, wantCode := 0, 0, api.OK
	switch {
	case amount < 0 || amount > api.MaxVolume || num < 0 || num > api.MaxLevel || den > api.MaxVolume:
		wantCode = api.ErrRange
	case den < 1:
		wantCode = api.ErrZero
	case carry < 0 || carry >= den:
		wantCode = api.ErrForm
	default:
		exact := new(big.Int).Mul(whole(amount), whole(num))
		exact.Add(exact, whole(carry))
		quotient, rest := new(big.Int).QuoRem(exact, whole(den), new(big.Int))
		want, wantRest = int(quotient.Int64()), int(rest.Int64())
	}
	if got, rest, code := quantity.Carry(amount, num, den, carry); got != want || rest != wantRest || code != wantCode {
		t.Errorf("Carry(%d, %d, %d, %d) = %d, %d, %d; want %d, %d, %d", amount, num, den, carry, got, rest, code, want, wantRest, wantCode)
	}
}

// The consequence of P1.4: the results add up to the floor of the sum of all, and nothing is lost on the way.
func TestCarriedResultsAddUpToTheFloorOfTheSum(t *testing.T) {
	numbers := &samples.Sequence{}
	for range 200 {
		num, den := numbers.Below(1000), 1+numbers.Below(1000)
		carry := numbers.Below(den)
		exact, results := carry, 0
		for range 100 {
			amount := numbers.Below(100000)
			result, rest, code := quantity.Carry(amount, num, den, carry)
			if code != api.OK {
				t.Fatalf("Carry(%d, %d, %d, %d): error %d", amount, num, den, carry, code)
			}
			exact += amount * num
			results += result
			carry = rest
			if results != exact/den || carry != exact%den {
				t.Fatalf("results add up to %d, remainder %d; want %d, %d", results, carry, exact/den, exact%den)
			}
		}
	}
}

// P1.5
func TestClampOfNamedCases(t *testing.T) {
	for _, c := range []struct {
		x, least, most, want int
	}{
		{5, 3, 8, 5},
		{3, 3, 8, 3},
		{8, 3, 8, 8},
		{2, 3, 8, 3},
		{9, 3, 8, 8},
		{-9, -8, -3, -8},
		{0, -8, -3, -3},
		{4, 4, 4, 4},
		{3, 4, 4, 4},
		{5, 4, 4, 4},
		{1, 8, 3, 8},
		{3, 8, 3, 8},
		{5, 8, 3, 8},
		{8, 8, 3, 8},
		{9, 8, 3, 8},
		{0, math.MaxInt, math.MinInt, math.MaxInt},
		{math.MinInt, math.MinInt, math.MaxInt, math.MinInt},
		{math.MaxInt, math.MinInt, math.MaxInt, math.MaxInt},
		{math.MinInt, -1, 1, -1},
		{math.MaxInt, -1, 1, 1},
	} {
		if got := quantity.Clamp(c.x, api.Bounds{Least: c.least, Most: c.most}); got != c.want {
			t.Errorf("Clamp(%d, %d to %d) = %d; want %d", c.x, c.least, c.most, got, c.want)
		}
	}
}

// P1.5
func TestMeetOfNamedCases(t *testing.T) {
	for _, c := range []struct {
		name       string
		a, b, want api.Bounds
		ok         bool
	}{
		{"they overlap", api.Bounds{Least: 3, Most: 8}, api.Bounds{Least: 5, Most: 99}, api.Bounds{Least: 5, Most: 8}, true},
		{"one is within the other", api.Bounds{Least: -9, Most: 99}, api.Bounds{Least: 5, Most: 6}, api.Bounds{Least: 5, Most: 6}, true},
		{"they are equal", api.Bounds{Least: 3, Most: 8}, api.Bounds{Least: 3, Most: 8}, api.Bounds{Least: 3, Most: 8}, true},
		{"they touch", api.Bounds{Least: 3, Most: 8}, api.Bounds{Least: 8, Most: 9}, api.Bounds{Least: 8, Most: 8}, true},
		{"they are next to each other", api.Bounds{Least: 3, Most: 8}, api.Bounds{Least: 9, Most: 10}, api.Bounds{}, false},
		{"they are far apart", api.Bounds{Least: -3, Most: -1}, api.Bounds{Least: 90, Most: 100}, api.Bounds{}, false},
		{"all ints", api.Bounds{Least: math.MinInt, Most: math.MaxInt}, api.Bounds{Least: -1, Most: 1}, api.Bounds{Least: -1, Most: 1}, true},
		{"one excludes itself", api.Bounds{Least: 5, Most: 4}, api.Bounds{Least: 3, Most: 8}, api.Bounds{}, false},
		{"one excludes itself, the other holds it", api.Bounds{Least: 9, Most: -9}, api.Bounds{Least: -99, Most: 99}, api.Bounds{}, false},
		{"both exclude themselves", api.Bounds{Least: 5, Most: 4}, api.Bounds{Least: 5, Most: 4}, api.Bounds{}, false},
		{"the ends of int, turned around", api.Bounds{Least: math.MaxInt, Most: math.MinInt}, api.Bounds{Least: math.MinInt, Most: math.MaxInt}, api.Bounds{}, false},
	} {
		if got, ok := quantity.Meet(c.a, c.b); got != c.want || ok != c.ok {
			t.Errorf("%s: Meet(%v, %v) = %v, %v", c.name, c.a, c.b, got, ok)
		}
		if got, ok := quantity.Meet(c.b, c.a); got != c.want || ok != c.ok {
			t.Errorf("%s: Meet(%v, %v) = %v, %v", c.name, c.b, c.a, got, ok)
		}
	}
}

// P1.5: what is common is what is within both bounds, for all bounds of a small range.
func TestMeetHoldsWhatIsWithinBoth(t *testing.T) {
	const most = 4
	within := func(x int, b api.Bounds) bool { return b.Least <= x && x <= b.Most }
	for n := range most * most * most * most {
		a := api.Bounds{Least: n % most, Most: n / most % most}
		b := api.Bounds{Least: n / (most * most) % most, Most: n / (most * most * most)}
		common, ok := quantity.Meet(a, b)
		some := false
		for x := range most {
			inBoth := within(x, a) && within(x, b)
			some = some || inBoth
			if ok && within(x, common) != inBoth {
				t.Errorf("Meet(%v, %v) = %v, but %d", a, b, common, x)
			}
		}
		if ok != some || !ok && common != (api.Bounds{}) {
			t.Errorf("Meet(%v, %v) = %v, %v", a, b, common, ok)
		}
	}
}
