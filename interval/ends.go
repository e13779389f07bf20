package interval

import (
	"slices"

	"queuelab/api"
)

// combine returns the interval of an operation. With either number fixed, the operation must never fall or never rise with the other one, so that its least and greatest results are among those for the ends.
func combine(a, b api.Span, operation func(x, y int) int) (api.Span, api.Errno) {
	if !areValid(a, b) {
		return api.Span{}, api.ErrArg
	}
	results := ends(a, b, operation)
	s := around(results[:]...)
	if !Valid(s) {
		return api.Span{}, api.ErrRange
	}
	return s, api.OK
}

// divide is combine for quotients, which rise or fall throughout only where no divisor is 0.
func divide(a, b api.Span, operation func(x, y int) int) (api.Span, api.Errno) {
	if areValid(a, b) && b.Low <= 0 && 0 <= b.High {
		return api.Span{}, api.ErrZero
	}
	return combine(a, b, operation)
}

// ends returns the results of an operation for the ends of two intervals.
func ends[R any](a, b api.Span, operation func(x, y int) R) [4]R {
	return [...]R{operation(a.Low, b.Low), operation(a.Low, b.High), operation(a.High, b.Low), operation(a.High, b.High)}
}

// around returns the least interval that contains some numbers.
func around(numbers ...int) api.Span {
	return api.Span{Low: slices.Min(numbers), High: slices.Max(numbers)}
}

func areValid(spans ...api.Span) bool {
	for _, s := range spans {
		if !Valid(s) {
			return false
		}
	}
	return true
}

// product returns x * y, or just any number that is no value if this is none: the product of two values may be too great for an int.
func product(x, y int) int {
	if x != 0 && size(y) > api.MaxValue/size(x) {
		return api.MaxValue + 1
	}
	return x * y
}

// size returns a number without its sign.
func size(n int) int { return max(n, -n) }

// quotient returns x / y, rounded down.
func quotient(x, y int) int {
	q := x / y
	// The language rounds towards zero.
	if x%y != 0 && (x < 0) != (y < 0) {
		q--
	}
	return q
}
