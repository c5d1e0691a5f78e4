package exchange_test

import (
	"math"
	"math/rand/v2"
	"slices"
	"strings"
	"testing"

	"awardingbody/api"
	"awardingbody/exchange"
)

// example is the file of the chapter's example.
func example() api.File {
	return api.File{Kind: "ENTRY", Source: 7, Number: 3, Rows: [][]string{{"12", "a|b"}}}
}

// with returns a file with these rows.
func with(rows ...[]string) api.File {
	return api.File{Kind: "ENTRY", Source: 7, Number: 3, Rows: rows}
}

// P3.1: what a file may be at most and at least
func TestValid(t *testing.T) {
	row := []string{"a"}
	for i, f := range []api.File{
		example(), with(), with([][]string{}...), {Kind: "A"}, {Kind: "Z"}, {Kind: "ABCDEFGH"}, {Kind: "ZZZZZZZZ", Source: 99, Number: 9999},
		with(slices.Repeat([][]string{row}, 39)...), with(slices.Repeat([][]string{row}, 40)...), with([]string{""}), with(make([]string, 8)),
		with(row, make([]string, 7), row), with([]string{strings.Repeat("x", 40)}), with([]string{strings.Repeat("|", 40), strings.Repeat("\n", 40)}),
		with([]string{strings.Repeat("\\", 39)}), with(slices.Repeat([][]string{slices.Repeat([]string{strings.Repeat("\\", 40)}, 8)}, 40)...),
	} {
		if !exchange.Valid(f) {
			t.Errorf("%d: %v is not valid", i, f)
		}
	}
	for i, f := range invalid() {
		if exchange.Valid(f) {
			t.Errorf("%d: %v is valid", i, f)
		}
	}
}

// invalid returns files with a single thing that is wrong.
func invalid() []api.File {
	row, long := []string{"a"}, strings.Repeat("x", 41)
	return []api.File{
		{}, {Kind: "", Source: 7, Number: 3, Rows: [][]string{row}}, {Kind: "ABCDEFGHI"}, {Kind: strings.Repeat("A", 1<<16)},
		{Kind: "a"}, {Kind: "aB"}, {Kind: "Ab"}, {Kind: "AbC"}, {Kind: "A1"}, {Kind: "A|B"}, {Kind: "A B"}, {Kind: "A\n"}, {Kind: "@"}, {Kind: "["}, {Kind: "\x00"}, {Kind: "\u00c4"}, {Kind: "\xc1"},
		with(slices.Repeat([][]string{row}, 41)...), with(slices.Repeat([][]string{row}, 10000)...),
		with(nil), with([]string{}), with(row, nil), with(nil, row), with(row, []string{}, row),
		with(make([]string, 9)), with(row, make([]string, 9)), with(make([]string, 1000)),
		with([]string{long}), with([]string{"a", long}), with([]string{long, "a"}), with(row, []string{"a", "b", long}), with([]string{strings.Repeat("\n", 41)}),
		with([]string{"\u00e9"}), with([]string{"a", "\x00"}), with(row, []string{"\r\n"}),
	}
}

// P3.1: the numbers at their limits
func TestValidNumbers(t *testing.T) {
	for _, n := range []int{math.MinInt, math.MinInt + 1, -1 << 32, -100, -1, 0, 1, 98, 99, 100, 101, 9998, 9999, 10000, 10001, 1 << 32, math.MaxInt} {
		if got, want := exchange.Valid(api.File{Kind: "K", Source: n}), n >= 0 && n <= 99; got != want {
			t.Errorf("with the source %d, valid is %t", n, got)
		}
		if got, want := exchange.Valid(api.File{Kind: "K", Number: n}), n >= 0 && n <= 9999; got != want {
			t.Errorf("with the number %d, valid is %t", n, got)
		}
	}
}

// P3.1: every byte at every place of a kind and of a field
func TestValidBytes(t *testing.T) {
	for c := range 256 {
		for place := range 3 {
			b := []byte("AAA")
			b[place] = byte(c)
			if got, want := exchange.Valid(api.File{Kind: string(b)}), c >= 'A' && c <= 'Z'; got != want {
				t.Errorf("with the kind %q, valid is %t", b, got)
			}
			if got, want := exchange.Valid(with([]string{"a"}, []string{"b", string(b)})), c == 10 || c >= 32 && c <= 126; got != want {
				t.Errorf("with the field %q, valid is %t", b, got)
			}
		}
	}
}

// P3.1: for any string; the weights begin again after 251 bytes
func TestCheck(t *testing.T) {
	zeros := strings.Repeat("\x00", 249)
	for _, c := range []struct {
		s    string
		want int
	}{
		{"", 0}, {"\x00", 0}, {"\x01", 1}, {"A", 65}, {"AB", 65 + 2*66}, {"BA", 66 + 2*65}, {"\x00\x01", 2}, {"\xff", 255}, {"\xff\xff", 765}, {"\u00e9", 0xc3 + 2*0xa9},
		{zeros + "\x01", 250}, {zeros + "\x00\x01", 251}, {zeros + "\x00\x00\x01", 1}, {zeros + "\x00\x00\x00\x01", 2}, {zeros + zeros + "\x00\x00\x00\x00\x01", 1},
		{zeros + "\x00\x27", 251 * 39}, {zeros + "\x00\x28", 251*40 - 9973}, {"\xb7" + zeros + "\x27", 9972}, {"\xb8" + zeros + "\x27", 0}, {"\xb9" + zeros + "\x27", 1},
	} {
		if got := exchange.Check(c.s); got != c.want {
			t.Errorf("Check(%q) is %d, not %d", c.s, got, c.want)
		}
	}
}

// P3.1
func TestCheckOfSamples(t *testing.T) {
	random := rand.New(rand.NewPCG(5, 6))
	for range 500 {
		s := make([]byte, random.IntN(2000))
		for i := range s {
			s[i] = byte(random.Uint32())
		}
		if got, want := exchange.Check(string(s)), checkOf(string(s)); got != want {
			t.Fatalf("Check(%q) is %d, not %d", s, got, want)
		}
	}
	long := strings.Repeat("\xff", 1<<20)
	if got, want := exchange.Check(long), checkOf(long); got != want {
		t.Errorf("Check of a long string is %d, not %d", got, want)
	}
}

func file(source, number int) api.File {
	return api.File{Kind: "X", Source: source, Number: number}
}

// P3.4: the list is in no order, with repetitions, other sources, other kinds and files that are not valid
func TestGaps(t *testing.T) {
	other := api.File{Kind: "OTHER", Source: 1, Number: 2}
	bad := api.File{Kind: "X", Source: 4, Number: 3, Rows: [][]string{{}}}
	l := []api.File{file(1, 4), file(1, 1), file(2, 9), file(1, 1), {Source: 1, Number: 6}, file(3, 0), other, file(1, -1), file(1, 10000), file(100, 2), file(-1, 2), bad, file(5, 1), file(5, 0), file(0, 1), file(99, 3), file(99, 1)}
	for _, c := range []struct {
		source int
		want   []int
	}{
		{0, []int{0}}, {1, []int{0, 3}}, {2, []int{0, 1, 2, 3, 4, 5, 6, 7, 8}}, {3, nil}, {4, nil}, {5, nil}, {6, nil}, {99, []int{0, 2}},
		{100, nil}, {-1, nil}, {math.MinInt, nil}, {math.MaxInt, nil},
	} {
		if got := exchange.Gaps(l, c.source); !slices.Equal(got, c.want) {
			t.Errorf("Gaps of %d are %v, not %v", c.source, got, c.want)
		}
	}
	for _, l := range [][]api.File{nil, {}, {{Number: 5}}, {file(1, 5)}} {
		if got := exchange.Gaps(l, 0); len(got) != 0 {
			t.Errorf("Gaps of %v are %v", l, got)
		}
	}
}

// P3.4: the greatest number that there is
func TestGapsOfGreatest(t *testing.T) {
	got := exchange.Gaps([]api.File{file(7, 9999)}, 7)
	if len(got) != 9999 || got[0] != 0 || got[9998] != 9998 || !slices.IsSorted(got) {
		t.Errorf("%d gaps below 9999", len(got))
	}
	var all []api.File
	for n := range 10000 {
		all = append(all, file(7, n))
	}
	if got := exchange.Gaps(all, 7); len(got) != 0 {
		t.Errorf("%d gaps among all files", len(got))
	}
	if got := exchange.Gaps(slices.Delete(all, 5000, 5001), 7); !slices.Equal(got, []int{5000}) {
		t.Errorf("without 5000, the gaps are %v", got)
	}
}
