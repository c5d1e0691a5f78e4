package ratio_test

import (
	"slices"
	"testing"

	"awardingbody/api"
	"awardingbody/ratio"
)

// both returns the second result of two operations in a row, unless one of them is an error.
func both(first, second func(a, b api.Ratio) (api.Ratio, api.Errno), a, b, c api.Ratio) (api.Ratio, bool) {
	x, code := first(a, b)
	if code != api.OK {
		return api.Ratio{}, false
	}
	y, code := second(x, c)
	return y, code == api.OK
}

// P1.9: what holds for two fractions
func TestLawsOfTwo(t *testing.T) {
	l := samples()
	for _, a := range some(4) {
		for _, b := range l {
			for _, op := range []func(a, b api.Ratio) (api.Ratio, api.Errno){ratio.Add, ratio.Mul} {
				x, code := op(a, b)
				y, other := op(b, a)
				if x != y || code != other {
					t.Fatalf("%v and %v are not commutative", a, b)
				}
			}
			if x, ok := both(ratio.Add, ratio.Sub, a, b, b); ok && x != a {
				t.Fatalf("Sub does not undo Add: %v, %v", a, b)
			}
			if x, ok := both(ratio.Mul, ratio.Div, a, b, b); ok && x != a {
				t.Fatalf("Div does not undo Mul: %v, %v", a, b)
			}
			if ratio.Compare(a, b) != -ratio.Compare(b, a) || (ratio.Compare(a, b) == 0) != (a == b) {
				t.Fatalf("%v and %v are not in order", a, b)
			}
		}
	}
}

// P1.9: what holds for three fractions
func TestLawsOfThree(t *testing.T) {
	l := append(some(40), r(0, 1), r(1, 2), r(1, 3), r(-2, 3), r(5, 6), r(-7, 12), r(4, 1))
	checked := 0
	for _, a := range l {
		for _, b := range l {
			for _, c := range l {
				checked += lawsOf(t, a, b, c)
			}
		}
	}
	if checked < 1000 {
		t.Errorf("only %d laws are checked", checked)
	}
}

// lawsOf returns the number of laws in which no error occurs.
func lawsOf(t *testing.T, a, b, c api.Ratio) int {
	t.Helper()
	checked := 0
	for _, op := range []func(a, b api.Ratio) (api.Ratio, api.Errno){ratio.Add, ratio.Mul} {
		left, ok := both(op, op, a, b, c)
		right, too := both(op, op, b, c, a)
		if ok && too {
			checked++
			if left != right {
				t.Fatalf("%v, %v and %v are not associative", a, b, c)
			}
		}
	}
	left, ok := both(ratio.Add, ratio.Mul, a, b, c)
	ac, code := ratio.Mul(a, c)
	bc, other := ratio.Mul(b, c)
	right, last := ratio.Add(ac, bc)
	if ok && code == api.OK && other == api.OK && last == api.OK {
		checked++
		if left != right {
			t.Fatalf("(%v + %v) * %v is not distributed", a, b, c)
		}
	}
	if ratio.Compare(a, b) <= 0 && ratio.Compare(b, c) <= 0 && ratio.Compare(a, c) > 0 {
		t.Fatalf("%v, %v and %v are not in order", a, b, c)
	}
	return checked
}

// P1.9
func TestParseUndoesFormat(t *testing.T) {
	for _, a := range samples() {
		if got, code := ratio.Parse(ratio.Format(a)); got != a || code != api.OK {
			t.Errorf("%v becomes %v, %d", a, got, code)
		}
	}
}

// R5 and R6: results share no memory, and no state is kept
func TestResultsAreNew(t *testing.T) {
	weights := []int{1, 1, 1}
	first, _ := ratio.Apportion(10, weights)
	clear(first)
	second, code := ratio.Apportion(10, weights)
	if !slices.Equal(second, []int{4, 3, 3}) || !slices.Equal(weights, []int{1, 1, 1}) || code != api.OK {
		t.Errorf("the second call gives %v, %d for %v", second, code, weights)
	}
}
