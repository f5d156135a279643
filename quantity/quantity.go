// Package quantity is layer 1, exact arithmetic of amounts: see shared/doc/01-quantity.md.
package quantity

import (
	"cmp"
	"math"
	"slices"

	"hydrocascade/api"
)

// Floor returns a / b, rounded down to the next lower integer.
// Errors: ErrZero (b is 0); ErrRange (the result is not an int).
func Floor(a, b int) (int, api.Errno) {
	if b == 0 {
		return 0, api.ErrZero
	}
	// The only quotient that is no int: Go's division would wrap around.
	if a == math.MinInt && b == -1 {
		return 0, api.ErrRange
	}
	quotient := a / b
	// Go cuts towards 0, which is one too much where the exact quotient is negative.
	if a%b != 0 && (a < 0) != (b < 0) {
		quotient--
	}
	return quotient, api.OK
}

// Scale returns a * num / den, rounded down.
// Errors, in this order: ErrRange (a is not from 0 to api.MaxVolume, or num not from 0 to api.MaxLevel); ErrZero (den is less than 1).
func Scale(a, num, den int) (int, api.Errno) {
	if !fromZeroTo(api.MaxVolume, a) || !fromZeroTo(api.MaxLevel, num) {
		return 0, api.ErrRange
	}
	if den < 1 {
		return 0, api.ErrZero
	}
	// The product is at most 2^62, and nothing is negative: Go's division rounds down.
	return a * num / den, api.OK
}

// Share divides an amount in proportion to weights, rounded down; what is left over goes, one each, to those whose remainders are greatest, the least index first of equal ones.
// Errors, in this order: ErrRange (amount is not from 0 to api.MaxVolume, or a weight not from 0 to api.MaxWeight); ErrLimit (more than api.MaxList weights); ErrZero (the weights add up to 0, unless amount is 0).
func Share(amount int, weights []int) ([]int, api.Errno) {
	if code := checkShare(amount, weights); code != api.OK {
		return nil, code
	}
	shares := make([]int, len(weights))
	if amount == 0 {
		return shares, api.OK
	}
	total := sum(weights)
	if total == 0 {
		return nil, api.ErrZero
	}
	remainders := make([]int, len(weights))
	left := amount
	for i, weight := range weights {
		product := amount * weight
		shares[i], remainders[i] = product/total, product%total
		left -= shares[i]
	}
	// The remainders add up to left * total, and each is less than total: more than left of them are not 0, so a weight of 0 gets nothing.
	for _, i := range greatestFirst(remainders)[:left] {
		shares[i]++
	}
	return shares, api.OK
}

// Carry returns (amount * num + carry) / den, rounded down, and the remainder, which is carried on.
// Errors, in this order: ErrRange (amount is not from 0 to api.MaxVolume, num not from 0 to api.MaxLevel, or den greater than api.MaxVolume); ErrZero (den is less than 1); ErrForm (carry is not from 0 to den - 1).
func Carry(amount, num, den, carry int) (int, int, api.Errno) {
	if !fromZeroTo(api.MaxVolume, amount) || !fromZeroTo(api.MaxLevel, num) || den > api.MaxVolume {
		return 0, 0, api.ErrRange
	}
	if den < 1 {
		return 0, 0, api.ErrZero
	}
	if !fromZeroTo(den-1, carry) {
		return 0, 0, api.ErrForm
	}
	// At most 2^62 + 2^38 - 1, which is an int.
	whole := amount*num + carry
	return whole / den, whole % den, api.OK
}

// Clamp returns x if it is within the bounds, otherwise the bound that it is beyond; Least, if Least is greater than Most.
func Clamp(x int, b api.Bounds) int {
	// Least comes last, since it decides where the bounds exclude each other.
	return max(b.Least, min(x, b.Most))
}

// Meet returns the bounds that are common to both, and true; false if there are none.
func Meet(a, b api.Bounds) (api.Bounds, bool) {
	common := api.Bounds{Least: max(a.Least, b.Least), Most: min(a.Most, b.Most)}
	// Where Least is greater than Most in a or b, it is so in what is common to them.
	if common.Least > common.Most {
		return api.Bounds{}, false
	}
	return common, true
}

// checkShare returns the first error of Share that does not depend on the sum of the weights.
func checkShare(amount int, weights []int) api.Errno {
	if !fromZeroTo(api.MaxVolume, amount) {
		return api.ErrRange
	}
	for _, weight := range weights {
		if !fromZeroTo(api.MaxWeight, weight) {
			return api.ErrRange
		}
	}
	if len(weights) > api.MaxList {
		return api.ErrLimit
	}
	return api.OK
}

// greatestFirst returns the indices of values by falling value, the least index first of equal ones.
func greatestFirst(values []int) []int {
	order := make([]int, len(values))
	for i := range order {
		order[i] = i
	}
	slices.SortFunc(order, func(i, j int) int {
		return cmp.Or(cmp.Compare(values[j], values[i]), cmp.Compare(i, j))
	})
	return order
}

func sum(values []int) int {
	total := 0
	for _, value := range values {
		total += value
	}
	return total
}

func fromZeroTo(most, x int) bool { return 0 <= x && x <= most }
