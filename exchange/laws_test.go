package exchange_test

import (
	"math/rand/v2"
	"slices"
	"strings"
	"testing"

	"awardingbody/api"
	"awardingbody/exchange"
)

// P3.2, P3.3 and P3.5: Parse undoes Format, and Format undoes Parse
func TestParseUndoesFormat(t *testing.T) {
	random := rand.New(rand.NewPCG(9, 10))
	limits := 0
	for range 3000 {
		f := randomFile(random, 40)
		want := textOf(f)
		s, code := exchange.Format(f)
		if len(want) > api.MaxText {
			limits++
			if s != "" || code != api.ErrLimit {
				t.Fatalf("%d bytes: Format is %q, %d", len(want), s, code)
			}
			continue
		}
		if s != want || code != api.OK {
			t.Fatalf("Format(%v) is %q, %d, not %q", f, s, code, want)
		}
		back, code := exchange.Parse(s)
		if !same(back, f) || code != api.OK {
			t.Fatalf("%v becomes %v, %d", f, back, code)
		}
		if again, code := exchange.Format(back); again != s || code != api.OK {
			t.Fatalf("%q becomes %q, %d", s, again, code)
		}
	}
	if limits < 10 || limits > 1500 {
		t.Errorf("%d of the texts are too long", limits)
	}
}

// damageable are texts of files with few rows, with the weights beginning again, and with many rows.
func damageable() []string {
	random := rand.New(rand.NewPCG(11, 12))
	texts := []string{
		textOf(example()), textOf(api.File{Kind: "A"}), textOf(with([]string{"\n|\\", ""}, []string{""})), textOf(with([]string{strings.Repeat("n", 40), strings.Repeat("~", 40), strings.Repeat("\\", 40)})),
		textOf(with(slices.Repeat([][]string{{"ENDROW", "10"}}, 10)...)), textOf(with(slices.Repeat([][]string{{"\n"}}, 40)...)),
	}
	for len(texts) < 16 {
		if s := textOf(randomFile(random, 4)); len(s) < 600 {
			texts = append(texts, s)
		}
	}
	return texts
}

// P3.5: every byte replaced by every other one
func TestReplacedByte(t *testing.T) {
	long := 0
	for _, s := range damageable() {
		if len(s) > 300 {
			long++
		}
		for i := range len(s) {
			b := []byte(s)
			for d := range 255 {
				b[i] = s[i] + byte(d+1)
				if f, code := exchange.Parse(string(b)); code == api.OK || !same(f, api.File{}) {
					t.Fatalf("%q instead of %q gives %v, %d", b, s, f, code)
				}
			}
		}
	}
	if long < 3 {
		t.Errorf("only %d texts are long", long)
	}
}

// P3.5: all neighbours that differ exchanged
func TestExchangedBytes(t *testing.T) {
	texts := append(damageable(), textOf(ofLength(8192)))
	for _, s := range texts {
		for i := range len(s) - 1 {
			if s[i] == s[i+1] {
				continue
			}
			b := []byte(s)
			b[i], b[i+1] = b[i+1], b[i]
			if f, code := exchange.Parse(string(b)); code == api.OK || !same(f, api.File{}) {
				t.Fatalf("%q instead of %q gives %v, %d", b, s, f, code)
			}
		}
	}
}

// P3.5
func TestGapsInAnyOrder(t *testing.T) {
	random := rand.New(rand.NewPCG(13, 14))
	for range 500 {
		var l []api.File
		for range random.IntN(12) {
			f := file(random.IntN(2), random.IntN(16)-1)
			f.Kind = []string{"X", "Y", "x"}[random.IntN(3)]
			l = append(l, f)
		}
		want := gapsOf(l, 1)
		for range 4 {
			if got := exchange.Gaps(l, 1); !slices.Equal(got, want) {
				t.Fatalf("Gaps(%v, 1) are %v, not %v", l, got, want)
			}
			random.Shuffle(len(l), func(i, k int) { l[i], l[k] = l[k], l[i] })
		}
	}
}

// gapsOf follows P3.4 word by word.
func gapsOf(l []api.File, source int) []int {
	var numbers, gaps []int
	for _, f := range l {
		if f.Source == source && exchange.Valid(f) {
			numbers = append(numbers, f.Number)
		}
	}
	if len(numbers) == 0 {
		return nil
	}
	for n := range slices.Max(numbers) + 1 {
		if !slices.Contains(numbers, n) {
			gaps = append(gaps, n)
		}
	}
	return gaps
}

// R1: no text and no file makes a function panic
func TestAnything(t *testing.T) {
	random := rand.New(rand.NewPCG(15, 16))
	for range 20000 {
		b := make([]byte, random.IntN(60))
		for i := range b {
			b[i] = "\n|\\FILEROWEND01A\x00\xff"[random.IntN(18)]
		}
		s := string(b)
		want, wantCode := parseOf(s)
		if got, code := exchange.Parse(s); !same(got, want) || code != wantCode {
			t.Fatalf("Parse(%q) is %v, %d", s, got, code)
		}
		f := api.File{Kind: s, Source: random.IntN(3) - 1, Rows: [][]string{{s}, {s, s}}}
		if got, code := exchange.Format(f); !exchange.Valid(f) && (got != "" || code != api.ErrInvalid) {
			t.Fatalf("Format(%v) is %q, %d", f, got, code)
		}
	}
}

// R5 and R6: arguments are not modified, results share no memory, and no state is kept
func TestResultsAreNew(t *testing.T) {
	f := with([]string{"a|b", "c"}, []string{"d"}, []string{"e"})
	kept := copied(f)
	s, _ := exchange.Format(f)
	first, _ := exchange.Parse(s)
	second, _ := exchange.Parse(s)
	for _, row := range first.Rows {
		_ = append(row, "appended")
		clear(row)
	}
	clear(first.Rows)
	if !same(second, kept) || !same(f, kept) {
		t.Errorf("the file is %v, and the second result %v", f, second)
	}
	l := []api.File{file(1, 5), file(1, 3), kept}
	gaps := exchange.Gaps(l, 1)
	clear(gaps)
	if again := exchange.Gaps(l, 1); !slices.Equal(again, []int{0, 1, 2, 4}) || l[0].Number != 5 || l[1].Number != 3 || !same(l[2], f) {
		t.Errorf("the second call gives %v for %v", again, l)
	}
}
