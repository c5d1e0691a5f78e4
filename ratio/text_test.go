package ratio_test

import (
	"math/big"
	"strings"
	"testing"

	"awardingbody/api"
	"awardingbody/ratio"
)

// P1.7
func TestParse(t *testing.T) {
	for _, c := range []struct {
		s    string
		want api.Ratio
	}{
		{"0", r(0, 1)}, {"-0", r(0, 1)}, {"7", r(7, 1)}, {"007", r(7, 1)}, {"-007", r(-7, 1)},
		{"0000000000000000001", r(1, 1)}, {"-0000000000000000001", r(-1, 1)},
		{"6/4", r(3, 2)}, {"-6/0004", r(-3, 2)}, {"0/5", r(0, 1)}, {"-0/5", r(0, 1)}, {"08/4", r(2, 1)},
		{"1/1152921504606846976", r(1, most)}, {"2/2305843009213693952", r(1, most)}, {"2305843009213693952/2", r(most, 1)},
		{"9999999999999999999/9999999999999999999", r(1, 1)}, {"-9999999999999999999/9999999999999999999", r(-1, 1)},
		{"9999999999999999998/4999999999999999999", r(2, 1)}, {"1/0000000000000000002", r(1, 2)},
		{"1.5", r(3, 2)}, {"-1.5", r(-3, 2)}, {"-0.5", r(-1, 2)}, {"0.5", r(1, 2)}, {"00.50", r(1, 2)}, {"-0.0", r(0, 1)}, {"3.0", r(3, 1)},
		{"1.05", r(21, 20)}, {"1.50", r(3, 2)}, {"0.000000001", r(1, 1000000000)}, {"-0.123456789", r(-123456789, 1000000000)}, {"1.000000000", r(1, 1)},
		{"1152921504606846976", r(most, 1)}, {"-1152921504606846976", r(-most, 1)}, {"1152921504606846976.0", r(most, 1)},
		{"-1152921504606846976.000000000", r(-most, 1)}, {"576460752303423487.5", r(most-1, 2)}, {"1152921504.5", r(2305843009, 2)}, {"-18446744073.709551616", r(-1<<55, 1953125)},
	} {
		if got, code := ratio.Parse(c.s); got != c.want || code != api.OK {
			t.Errorf("Parse(%q) is %v, %d", c.s, got, code)
		}
	}
}

// P1.7: the order of the errors
func TestParseErrors(t *testing.T) {
	refuse := func(code api.Errno, l ...string) {
		t.Helper()
		for _, s := range l {
			if got, c := ratio.Parse(s); got != r(0, 0) || c != code {
				t.Errorf("Parse(%q) is %v, %d, not %d", s, got, c, code)
			}
		}
	}
	refuse(api.ErrSyntax, "", "-", "+1", "--1", " 1", "1 ", "1\n", "-+1", "- 1", "a", "1a", "0x1", "1e2", "1_000", "\x00", "1\x00", "\uff11", "\u22121", "\u00bd",
		":", "1:", "/", "1/", "/2", "-/2", "1//2", "1/2/3", "1/-2", "1/+2", "1/ 2", "1 /2", "--1/2", ".", "1.", ".5", "-.5", "-.", "1..5", "1.2.3", "1.-5", "1.5/2", "1/2.5", "1/.5", "1.5/0", "1/0.0",
		"1,5", "1.0000000000", "0.0000000001", "00000000000000000001", "-00000000000000000001", "99999999999999999999", "00000000000000000001.5", "00000000000000000001/2",
		"1/00000000000000000002", "1/00000000000000000000", "00000000000000000001/0", "x/0", "-/0", strings.Repeat("9", 1000), strings.Repeat("-", 1000), strings.Repeat("0", 1<<16))
	refuse(api.ErrRange, "1/0", "0/00", "-0/0", "9999999999999999999/0", "1/0000000000000000000", "-1/0")
	refuse(api.ErrOverflow, "1152921504606846977", "-1152921504606846977", "9999999999999999999", "-9999999999999999999", "9223372036854775808",
		"1/1152921504606846977", "1/9999999999999999999", "9999999999999999999/2", "9999999999999999999.999999999", "-9999999999999999999.999999999",
		"1152921504606846976.5", "1152921504606846975.5", "1152921504.606846977", "18446744073.709551617", "-18446744073.709551617", "1152921504606846976.000000001")
}

// P1.7: every integer in front of every number of digits, against math/big
func TestParseDecimals(t *testing.T) {
	for _, front := range []string{"0", "1", "9", "12", "1000000000", "1152921503", "1152921504", "1152921505", "11529215046068469", "576460752303423488", "1152921504606846975", "9999999999999999999"} {
		for _, behind := range []string{"0", "5", "25", "125", "606", "60", "6", "999999999", "000000001", "500000000", "606846976", "606846977", "00", "10", "02"} {
			s := front + "." + behind
			x, _ := new(big.Rat).SetString(s)
			want, wantCode := fitted(x)
			if got, code := ratio.Parse(s); got != want || code != wantCode {
				t.Errorf("Parse(%q) is %v, %d", s, got, code)
			}
			want.Num = -want.Num
			if got, code := ratio.Parse("-" + s); got != want || code != wantCode {
				t.Errorf("Parse(%q) is %v, %d", "-"+s, got, code)
			}
		}
	}
}

// P1.7
func TestFormat(t *testing.T) {
	for _, c := range []struct {
		a    api.Ratio
		want string
	}{
		{r(0, 1), "0"}, {r(7, 1), "7"}, {r(-7, 1), "-7"}, {r(3, 2), "3/2"}, {r(-3, 2), "-3/2"},
		{r(most, 1), "1152921504606846976"}, {r(-1, most), "-1/1152921504606846976"},
	} {
		if got := ratio.Format(c.a); got != c.want {
			t.Errorf("Format(%v) is %q", c.a, got)
		}
	}
	for _, a := range invalid {
		if got := ratio.Format(a); got != "" {
			t.Errorf("Format(%v) is %q", a, got)
		}
	}
}

// P1.8
func TestDecimal(t *testing.T) {
	for _, c := range []struct {
		a      api.Ratio
		digits int
		want   string
	}{
		{r(1, 8), 2, "0.12"}, {r(-1, 8), 2, "-0.12"}, {r(3, 8), 2, "0.38"}, {r(-3, 8), 2, "-0.38"}, {r(999, 1000), 1, "1.0"}, {r(-999, 1000), 1, "-1.0"},
		{r(1, 1000), 2, "0.00"}, {r(-1, 1000), 2, "0.00"}, {r(-1, 200), 2, "0.00"}, {r(-3, 200), 2, "-0.02"}, {r(1, 20), 2, "0.05"}, {r(-101, 100), 2, "-1.01"},
		{r(0, 1), 0, "0"}, {r(0, 1), 3, "0.000"}, {r(5, 2), 0, "2"}, {r(7, 2), 0, "4"}, {r(-5, 2), 0, "-2"}, {r(-7, 2), 0, "-4"}, {r(-1, 2), 0, "0"}, {r(-3, 5), 0, "-1"},
		{r(12, 1), 0, "12"}, {r(12, 1), 1, "12.0"}, {r(199, 2), 0, "100"}, {r(1999, 200), 1, "10.0"}, {r(3, 20), 1, "0.2"}, {r(1, 4), 1, "0.2"}, {r(3, 4), 1, "0.8"}, {r(5, 4), 1, "1.2"},
		{r(1, 3), 9, "0.333333333"}, {r(2, 3), 9, "0.666666667"}, {r(-2, 3), 9, "-0.666666667"},
		{r(1, 2000000000), 9, "0.000000000"}, {r(3, 2000000000), 9, "0.000000002"}, {r(1, most), 9, "0.000000000"},
		{r(most, 1), 9, "1152921504606846976.000000000"}, {r(-most, 1), 9, "-1152921504606846976.000000000"}, {r(most, 1), 0, "1152921504606846976"},
		{r(most-1, 2), 0, "576460752303423488"}, {r(most-1, 2), 9, "576460752303423487.500000000"}, {r(most, 3), 9, "384307168202282325.333333333"}, {r(most-1, most), 9, "1.000000000"},
	} {
		if got := ratio.Decimal(c.a, c.digits); got != c.want {
			t.Errorf("Decimal(%v, %d) is %q", c.a, c.digits, got)
		}
	}
}

// P1.8
func TestDecimalOfExcluded(t *testing.T) {
	for _, digits := range []int{-1, 10, 11, 18, 19, 1 << 40, -1 << 63, 1<<63 - 1} {
		for _, a := range []api.Ratio{r(0, 1), r(1, 3), r(2, 4)} {
			if got := ratio.Decimal(a, digits); got != "" {
				t.Errorf("Decimal(%v, %d) is %q", a, digits, got)
			}
		}
	}
	for _, a := range invalid {
		for digits := range 10 {
			if got := ratio.Decimal(a, digits); got != "" {
				t.Errorf("Decimal(%v, %d) is %q", a, digits, got)
			}
		}
	}
}

// decimalOf follows the definition of P1.8 with numbers of any size.
func decimalOf(x *big.Rat, digits int) string {
	scale := new(big.Int).Exp(big.NewInt(10), big.NewInt(int64(digits)), nil)
	scaled := new(big.Rat).Mul(x, new(big.Rat).SetInt(scale))
	n, rest := new(big.Int).DivMod(scaled.Num(), scaled.Denom(), new(big.Int))
	c := new(big.Rat).SetFrac(rest, scaled.Denom()).Cmp(big.NewRat(1, 2))
	if c > 0 || c == 0 && n.Bit(0) == 1 {
		n.Add(n, big.NewInt(1))
	}
	return new(big.Rat).SetFrac(n, scale).FloatString(digits)
}

// P1.8
func TestDecimalOfSamples(t *testing.T) {
	for _, a := range samples() {
		for digits := range 10 {
			want := decimalOf(exact(a), digits)
			if got := ratio.Decimal(a, digits); got != want {
				t.Fatalf("Decimal(%v, %d) is %q, not %q", a, digits, got, want)
			}
		}
	}
	for num := -400; num <= 400; num++ {
		for _, den := range []int{8, 16, 20, 40, 200, 400, 2000} {
			a, code := ratio.New(num, den)
			for digits := range 5 {
				want := decimalOf(big.NewRat(int64(num), int64(den)), digits)
				if got := ratio.Decimal(a, digits); got != want || code != api.OK {
					t.Fatalf("Decimal(%v, %d) is %q, not %q", a, digits, got, want)
				}
			}
		}
	}
}
