package identity_test

import (
	"slices"
	"testing"

	"awardingbody/api"
	"awardingbody/identity"
)

// P4.2 and P4.3: Parse undoes Format
func TestParseUndoesFormat(t *testing.T) {
	all := ids()
	for n := range 10000 {
		all = append(all, id(n%100, n/100, 9999-n))
	}
	for _, x := range all {
		s, code := identity.Format(x)
		if s != numberOf(x) || code != api.OK {
			t.Fatalf("Format(%v) is %q, %d", x, s, code)
		}
		if back, code := identity.Parse(s); back != x || code != api.OK {
			t.Fatalf("%v becomes %q and %v, %d", x, s, back, code)
		}
	}
}

// refuse checks that a text is no candidate number.
func refuse(t *testing.T, s, from string) {
	t.Helper()
	if x, code := identity.Parse(s); x != id(0, 0, 0) || code == api.OK {
		t.Fatalf("%q instead of %q gives %v, %d", s, from, x, code)
	}
}

// P4.6: two numbers differ in at least two bytes
func TestReplacedByte(t *testing.T) {
	for _, x := range ids()[:600] {
		s := numberOf(x)
		for place := range 9 {
			for c := range 256 {
				if r := replaced(s, place, byte(c)); r != s {
					refuse(t, r, s)
				}
			}
		}
	}
}

// P4.6: two different digits exchanged, at any two places
func TestExchangedDigits(t *testing.T) {
	for _, x := range ids() {
		s := numberOf(x)
		for i := range 8 {
			for k := range i {
				if s[i] != s[k] {
					refuse(t, replaced(replaced(s, i, s[k]), k, s[i]), s)
				}
			}
		}
	}
}

// P4.6: two equal neighbours replaced by two others that are equal
func TestReplacedTwins(t *testing.T) {
	for _, x := range ids() {
		for place := range 7 {
			for a := byte('0'); a <= '9'; a++ {
				eight := replaced(replaced(numberOf(x)[:8], place, a), place+1, a)
				s := eight + letterOf(eight)
				for b := byte('0'); b <= '9'; b++ {
					if a != b {
						refuse(t, replaced(replaced(s, place, b), place+1, b), s)
					}
				}
			}
		}
	}
}

// P4.6: a byte that is missing is found again
func TestFillFindsAgain(t *testing.T) {
	for _, x := range ids() {
		s := numberOf(x)
		for place := range 9 {
			if got := identity.Fill(replaced(s, place, '?')); !slices.Equal(got, []string{s}) {
				t.Fatalf("without the byte %d, %q becomes %q", place, s, got)
			}
		}
	}
}

// P4.6: at most one number, and exactly one if the letter is missing
func TestFillIsUnique(t *testing.T) {
	for _, s := range wrong() {
		for place := range 9 {
			got := identity.Fill(replaced(s, place, '?'))
			if len(got) > 1 || place == 8 && len(got) != 1 {
				t.Fatalf("without the byte %d, %q becomes %q", place, s, got)
			}
		}
	}
}

// P4.6: a number has none near it
func TestNearOfNumbers(t *testing.T) {
	for _, x := range ids() {
		if got := identity.Near(numberOf(x)); len(got) != 0 {
			t.Fatalf("Near(%q) is %q", numberOf(x), got)
		}
	}
}

// differences are the places at which two texts of nine bytes differ.
func differences(a, b string) []int {
	var places []int
	for i := range 9 {
		if a[i] != b[i] {
			places = append(places, i)
		}
	}
	return places
}

// P4.5 and P4.6: ascending, one byte away, at most one for each digit, and exactly one for the letter
func TestNearOfWrong(t *testing.T) {
	for _, s := range wrong() {
		near := identity.Near(s)
		var count [9]int
		for i, r := range near {
			if i > 0 && near[i-1] >= r {
				t.Fatalf("Near(%q) is %q", s, near)
			}
			if _, code := identity.Parse(r); code != api.OK {
				t.Fatalf("Near(%q) has %q", s, r)
			}
			places := differences(r, s)
			if len(places) != 1 {
				t.Fatalf("Near(%q) has %q", s, r)
			}
			count[places[0]]++
		}
		if slices.Max(count[:]) > 1 || count[8] != 1 {
			t.Fatalf("Near(%q) is %q", s, near)
		}
	}
}

// P4.5: from a number with one wrong byte, it is near
func TestNearFindsAgain(t *testing.T) {
	for _, x := range ids()[:500] {
		s := numberOf(x)
		for place := range 9 {
			for _, c := range []byte("0123456789" + order) {
				r := replaced(s, place, c)
				if r != s && form.MatchString(r) && !slices.Contains(identity.Near(r), s) {
					t.Fatalf("%q is not near %q", s, r)
				}
			}
		}
	}
}
