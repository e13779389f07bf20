package ratio

import "queuelab/api"

// fraction is a ratio that may not be valid yet. The products of the numbers of two valid ratios, and the sums of two such products, fit into an int, so that those of a fraction are exact.
type fraction struct{ api.Ratio }

func over(num, den int) fraction { return fraction{api.Ratio{Num: num, Den: den}} }

// reduced returns the ratio of the value of a fraction.
func (f fraction) reduced() (api.Ratio, api.Errno) {
	if f.Den == 0 {
		return api.Ratio{}, api.ErrZero
	}
	d := divisor(f.Num, f.Den)
	if f.Den < 0 {
		d = -d
	}
	r := api.Ratio{Num: f.Num / d, Den: f.Den / d}
	if !isInRange(r) {
		return api.Ratio{}, api.ErrRange
	}
	return r, api.OK
}

// checked returns what an operation on two ratios returns, if these are valid.
func checked[R any](a, b api.Ratio, operation func() (R, api.Errno)) (result R, err api.Errno) {
	if !Valid(a) || !Valid(b) {
		return result, api.ErrArg
	}
	return operation()
}

// divisor returns the greatest number that divides both, if one of them is not 0.
func divisor(x, y int) int {
	for y != 0 {
		x, y = y, x%y
	}
	return max(x, -x)
}

func isInRange(a api.Ratio) bool {
	return 1 <= a.Den && a.Den <= api.MaxNumber && -api.MaxNumber <= a.Num && a.Num <= api.MaxNumber
}

func isValue(n int) bool { return -api.MaxValue <= n && n <= api.MaxValue }
