package identity_test

import (
	"fmt"
	"math"
	"slices"
	"strings"
	"testing"

	"awardingbody/api"
	"awardingbody/identity"
)

func id(centre, year, candidate int) api.CandidateID {
	return api.CandidateID{Centre: centre, Year: year, Candidate: candidate}
}

// fields are the numbers of an ID with their greatest values: alone gives an ID in which the others are 0, with one in which they have other valid values.
var fields = []struct {
	name        string
	most        int
	alone, with func(n int) api.CandidateID
}{
	{"Centre", 99, func(n int) api.CandidateID { return id(n, 0, 0) }, func(n int) api.CandidateID { return id(n, 34, 5678) }},
	{"Year", 99, func(n int) api.CandidateID { return id(0, n, 0) }, func(n int) api.CandidateID { return id(12, n, 5678) }},
	{"Candidate", 9999, func(n int) api.CandidateID { return id(0, 0, n) }, func(n int) api.CandidateID { return id(12, 34, n) }},
}

// P4.1 and P4.2: each field at its limits and far beyond
func TestLimits(t *testing.T) {
	for _, f := range fields {
		for _, n := range []int{0, 1, 9, 10, 11, f.most / 2, f.most - 1, f.most} {
			for _, x := range []api.CandidateID{f.alone(n), f.with(n)} {
				if got, code := identity.Format(x); !identity.Valid(x) || got != numberOf(x) || code != api.OK {
					t.Errorf("%s %d: %v is %q, %d", f.name, n, x, got, code)
				}
			}
		}
		for _, n := range []int{-1, -2, -10, -100, f.most + 1, f.most + 2, 10*f.most + 9, 10*f.most + 10, 1 << 32, -1 << 32, 1<<32 + 1, 1 << 56, math.MinInt, math.MinInt + 1, math.MaxInt} {
			for _, x := range []api.CandidateID{f.alone(n), f.with(n)} {
				if got, code := identity.Format(x); identity.Valid(x) || got != "" || code != api.ErrRange {
					t.Errorf("%s %d: %v is %q, %d", f.name, n, x, got, code)
				}
			}
		}
	}
	for _, x := range []api.CandidateID{id(-1, -1, -1), id(100, 100, 10000), id(-1, 100, 0), id(1, -100, 0), id(0, 1, -10000), id(0, -1, 10000)} {
		if got, code := identity.Format(x); identity.Valid(x) || got != "" || code != api.ErrRange {
			t.Errorf("%v is %q, %d", x, got, code)
		}
	}
}

// P4.1: a single digit of each value at each place, so that each weight shows, and each of the 23 letters
func TestLetter(t *testing.T) {
	for place := range 8 {
		for d := range 10 {
			digits := replaced("00000000", place, byte('0'+d))
			k := (place + 1) * d % 23
			if got, code := identity.Letter(digits); got != order[k:k+1] || code != api.OK {
				t.Errorf("Letter(%q) is %q, %d, not %q", digits, got, code, order[k:k+1])
			}
		}
	}
	for digits, want := range map[string]string{"00000000": "A", "00000001": "J", "99999999": "C", "12345678": "W", "11111111": "P", "87654321": "F", "00000010": "H", "10000000": "B"} {
		if got, code := identity.Letter(digits); got != want || code != api.OK {
			t.Errorf("Letter(%q) is %q, %d, not %q", digits, got, code, want)
		}
	}
	letters := map[string]bool{}
	for _, x := range ids() {
		s := numberOf(x)
		if got, code := identity.Letter(s[:8]); got != s[8:] || code != api.OK {
			t.Errorf("Letter(%q) is %q, %d", s[:8], got, code)
		}
		letters[s[8:]] = true
	}
	if len(letters) != 23 {
		t.Errorf("only %d letters occur", len(letters))
	}
}

// P4.1: texts of another length, and every other byte at every place
func TestLetterOfOthers(t *testing.T) {
	texts := []string{
		"", "0", "0000000", "000000000", "00000001J", "0000000A", "A0000000", "????????", "00000001\n", "\n00000001", " 0000001", "+0000001", "-0000001", "1e000000", "0x000000",
		"0000000\u0661", "000000\u0661", "\u0661\u0661\u0661\u0661", "0000\uff111", "\x00\x00\x00\x00\x00\x00\x00\x00", "\xff\xff\xff\xff\xff\xff\xff\xff", strings.Repeat("0", 16), strings.Repeat("0", 1<<16),
	}
	for place := range 8 {
		for c := range 256 {
			if c < '0' || c > '9' {
				texts = append(texts, replaced("12345678", place, byte(c)))
			}
		}
	}
	for _, s := range texts {
		if got, code := identity.Letter(s); got != "" || code != api.ErrSyntax {
			t.Errorf("Letter(%q) is %q, %d", s, got, code)
		}
	}
}

// P4.2 and P4.3: texts that are written out
func TestFormat(t *testing.T) {
	for _, c := range []struct {
		x    api.CandidateID
		want string
	}{
		{id(0, 0, 0), "00000000A"}, {id(0, 0, 1), "00000001J"}, {id(99, 99, 9999), "99999999C"}, {id(12, 34, 5678), "12345678W"},
		{id(1, 0, 0), "01000000C"}, {id(10, 0, 0), "10000000B"}, {id(0, 1, 0), "00010000E"}, {id(0, 10, 0), "00100000D"},
		{id(0, 0, 10), "00000010H"}, {id(0, 0, 100), "00000100G"}, {id(0, 0, 1000), "00001000F"}, {id(7, 26, 42), "07260042V"},
	} {
		if got, code := identity.Format(c.x); got != c.want || code != api.OK {
			t.Errorf("Format(%v) is %q, %d, not %q", c.x, got, code, c.want)
		}
		if got, code := identity.Parse(c.want); got != c.x || code != api.OK {
			t.Errorf("Parse(%q) is %v, %d, not %v", c.want, got, code, c.x)
		}
	}
}

// P4.3: the syntax is looked at first, whatever the letter would be
func TestParseOfMalformed(t *testing.T) {
	for _, s := range malformed() {
		if got, code := identity.Parse(s); got != id(0, 0, 0) || code != api.ErrSyntax {
			t.Errorf("Parse(%q) is %v, %d", s, got, code)
		}
	}
}

// P4.3: each letter behind the same digits
func TestParseOfWrong(t *testing.T) {
	for _, eight := range []string{"00000000", "00000001", "99999999", "12345678"} {
		right := 0
		for _, letter := range strings.Split(order, "") {
			want, wantCode := parseOf(eight + letter)
			if got, code := identity.Parse(eight + letter); got != want || code != wantCode {
				t.Errorf("Parse(%q) is %v, %d, not %v, %d", eight+letter, got, code, want, wantCode)
			}
			if wantCode == api.OK {
				right++
			}
		}
		if right != 1 {
			t.Errorf("%s has %d letters", eight, right)
		}
	}
	for _, s := range wrong() {
		if got, code := identity.Parse(s); got != id(0, 0, 0) || code != api.ErrLetter {
			t.Errorf("Parse(%q) is %v, %d", s, got, code)
		}
	}
}

// P4.4: texts that are written out
func TestFill(t *testing.T) {
	for s, want := range map[string][]string{
		"0000000?J": {"00000001J"}, "0000000?A": {"00000000A"}, "00000001?": {"00000001J"}, "99999999?": {"99999999C"}, "1234567?W": {"12345678W"}, "?2345678W": {"12345678W"},
		// A digit d at the first place has the number d, and the letters go on to Y.
		"?0000000A": {"00000000A"}, "?0000000K": {"90000000K"}, "?0000000L": nil, "?0000000Y": nil,
	} {
		if got := identity.Fill(s); !slices.Equal(got, want) {
			t.Errorf("Fill(%q) is %q, not %q", s, got, want)
		}
	}
}

// P4.4: every place, with the right letter and with every other one
func TestFillOfSamples(t *testing.T) {
	texts := wrong()
	for _, x := range ids()[:500] {
		texts = append(texts, numberOf(x))
	}
	none := 0
	for _, s := range texts {
		for place := range 9 {
			r := replaced(s, place, '?')
			want := fillOf(r)
			if got := identity.Fill(r); !slices.Equal(got, want) {
				t.Fatalf("Fill(%q) is %q, not %q", r, got, want)
			}
			if len(want) == 0 {
				none++
			}
		}
	}
	if none < 1000 {
		t.Errorf("only %d times there is nothing", none)
	}
}

// P4.4: no question mark, two, another length, and other wrong bytes
func TestFillOfOthers(t *testing.T) {
	texts := []string{
		"", "?", "??", "?????????", "00000001J", "00000001A", "0000000?", "?0000001", "0000000??", "000000??J", "?0000000?", "0000000?JJ", "?00000001J", "00000001J?", "00000000?A",
		"0000000?j", "0000000?I", "0000000?O", "0000000?Z", "0000000?1", "000000a?A", "J000000?1", "0000001\u00bf", "000000\u00bf?", "0000000\uff1f", strings.Repeat("?", 1<<16), strings.Repeat("0000000?J", 100),
	}
	for _, bad := range malformed() {
		texts = append(texts, bad)
		if len(bad) == 9 {
			texts = append(texts, replaced(bad, 0, '?'), replaced(bad, 4, '?'), replaced(bad, 8, '?'))
		}
	}
	nothing := 0
	for _, s := range texts {
		want := fillOf(s)
		if got := identity.Fill(s); !slices.Equal(got, want) {
			t.Errorf("Fill(%q) is %q, not %q", s, got, want)
		}
		if len(want) == 0 {
			nothing++
		}
	}
	if nothing < 5000 {
		t.Errorf("only %d texts have nothing", nothing)
	}
}

// P4.5: texts that are written out
func TestNear(t *testing.T) {
	for s, want := range map[string][]string{
		// The sum of the digits is 0, and the letter has the number 8: a digit d at the place k fits if k * d is 8, 31 or 54.
		"00000000J": {"00000000A", "00000001J", "00000900J", "00020000J", "04000000J", "80000000J"},
		// The letter has the number 1: k * d is 1, 24, 47 or 70.
		"00000000B": {"00000000A", "00000003B", "00000400B", "00060000B", "00800000B", "10000000B"},
		// The sum is 324, and the letter has the number 0: the sum must become less by 2, 25 or 48.
		"99999999A": {"79999999A", "98999999A", "99994999A", "99999199A", "99999993A", "99999999C"},
	} {
		if got := identity.Near(s); !slices.Equal(got, want) {
			t.Errorf("Near(%q) is %q, not %q", s, got, want)
		}
	}
}

// P4.5
func TestNearOfSamples(t *testing.T) {
	for _, s := range wrong() {
		want := nearOf(s)
		if got := identity.Near(s); !slices.Equal(got, want) {
			t.Fatalf("Near(%q) is %q, not %q", s, got, want)
		}
	}
}

// P4.5: also if the only wrong byte could be replaced
func TestNearOfMalformed(t *testing.T) {
	for _, s := range malformed() {
		if got := identity.Near(s); len(got) != 0 {
			t.Errorf("Near(%q) is %q", s, got)
		}
	}
	for place := range 9 {
		for _, c := range []byte("?iIoOzZ -\x00\xff") {
			s := replaced("12345678W", place, c)
			if got := identity.Near(s); len(got) != 0 {
				t.Errorf("Near(%q) is %q", s, got)
			}
		}
	}
}

// R5 and R6: results share no memory, and no state is kept
func TestResultsAreNew(t *testing.T) {
	for range 2 {
		near, fill := identity.Near("00000000J"), identity.Fill("0000000?J")
		if want := nearOf("00000000J"); !slices.Equal(near, want) || !slices.Equal(fill, []string{"00000001J"}) {
			t.Fatalf("Near is %q, Fill is %q", near, fill)
		}
		clear(near[:cap(near)])
		clear(fill[:cap(fill)])
	}
}

// R1: any text at all
func FuzzTexts(f *testing.F) {
	for _, s := range []string{"", "00000001J", "0000000?J", "00000000J", "?", "\xff"} {
		f.Add(s)
	}
	f.Fuzz(func(t *testing.T, s string) {
		want, wantCode := parseOf(s)
		if got, code := identity.Parse(s); got != want || code != wantCode {
			t.Errorf("Parse(%q) is %v, %d", s, got, code)
		}
		if got := identity.Fill(s); !slices.Equal(got, fillOf(s)) {
			t.Errorf("Fill(%q) is %q", s, got)
		}
		if got := identity.Near(s); !slices.Equal(got, nearOf(s)) {
			t.Errorf("Near(%q) is %q", s, got)
		}
		if _, code := identity.Letter(s); (code == api.OK) != form.MatchString(fmt.Sprint(s, "A")) {
			t.Errorf("Letter(%q) is %d", s, code)
		}
	})
}
