package exchange_test

import (
	"slices"
	"strings"
	"testing"

	"awardingbody/api"
	"awardingbody/exchange"
)

// P3.2: texts that are written out
func TestFormat(t *testing.T) {
	for _, c := range []struct {
		f    api.File
		want string
	}{
		{example(), "FILE|ENTRY|7|3\nROW|12|a\\pb\nEND|1|573\n"},
		{api.File{Kind: "A"}, closed("FILE|A|0|0\n", 0)},
		{api.File{Kind: "A", Rows: [][]string{}}, closed("FILE|A|0|0\n", 0)},
		{api.File{Kind: "ABCDEFGH", Source: 99, Number: 9999}, closed("FILE|ABCDEFGH|99|9999\n", 0)},
		{api.File{Kind: "A", Source: 10, Number: 100}, closed("FILE|A|10|100\n", 0)},
		{with([]string{""}), closed("FILE|ENTRY|7|3\nROW|\n", 1)},
		{with([]string{"", ""}, []string{" ", "~"}), closed("FILE|ENTRY|7|3\nROW||\nROW| |~\n", 2)},
		{with([]string{"\\|\n", "pn", "\\p", "\\n", "\\\\"}), closed("FILE|ENTRY|7|3\nROW|\\\\\\p\\n|pn|\\\\p|\\\\n|\\\\\\\\\n", 1)},
		{with([]string{"ROW|", "END|0|0\n", "FILE|"}), closed("FILE|ENTRY|7|3\nROW|ROW\\p|END\\p0\\p0\\n|FILE\\p\n", 1)},
		{with(slices.Repeat([][]string{{"x"}}, 40)...), closed("FILE|ENTRY|7|3\n"+strings.Repeat("ROW|x\n", 40), 40)},
	} {
		if got, code := exchange.Format(c.f); got != c.want || code != api.OK {
			t.Errorf("Format(%v) is %q, %d, not %q", c.f, got, code, c.want)
		}
	}
}

// P3.2: also if its text would be too long, a file that is not valid is ErrInvalid
func TestFormatOfInvalid(t *testing.T) {
	files := append(invalid(), api.File{Kind: "A", Source: 100}, api.File{Kind: "A", Source: -1}, api.File{Kind: "A", Number: 10000}, api.File{Kind: "A", Number: -1})
	full := slices.Repeat([][]string{slices.Repeat([]string{strings.Repeat("|", 40)}, 8)}, 40)
	files = append(files, api.File{Kind: "a", Rows: full}, with(append(full, full[0])...), with(append(full[:39:39], []string{"\t"})...))
	for i, f := range files {
		if got, code := exchange.Format(f); got != "" || code != api.ErrInvalid {
			t.Errorf("%d: Format is %q, %d", i, got, code)
		}
	}
}

// ofLength returns a valid file whose text has about n bytes, for n from 8100 to 8220: its check number may have fewer digits or more.
func ofLength(n int) api.File {
	f := api.File{Kind: "K", Rows: slices.Repeat([][]string{slices.Repeat([]string{strings.Repeat("x", 40)}, 5)}, 38)}
	last := make([]string, 7)
	f.Rows = append(f.Rows, last, []string{""})
	for i := range n - len(textOf(f)) {
		last[i%len(last)] += "x"
	}
	return f
}

// P3.2: at the limit and around it
func TestFormatLimit(t *testing.T) {
	fits, limits := 0, 0
	for n := 8100; n <= 8220; n++ {
		f := ofLength(n)
		want, wantCode := textOf(f), api.OK
		if len(want) > api.MaxText {
			want, wantCode = "", api.ErrLimit
			limits++
		} else if len(want) == api.MaxText {
			fits++
		}
		if got, code := exchange.Format(f); got != want || code != wantCode || !exchange.Valid(f) {
			t.Errorf("of %d bytes: %d bytes, %d", n, len(got), code)
		}
	}
	if fits == 0 || limits == 0 {
		t.Errorf("%d texts are as long as they may be, %d are longer", fits, limits)
	}
	full := with(slices.Repeat([][]string{slices.Repeat([]string{strings.Repeat("\n", 40)}, 8)}, 40)...)
	if got, code := exchange.Format(full); got != "" || code != api.ErrLimit {
		t.Errorf("of the longest file: %d bytes, %d", len(got), code)
	}
}
