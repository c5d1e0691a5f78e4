package exchange_test

import (
	"fmt"
	"math/rand/v2"
	"strings"
	"testing"

	"awardingbody/api"
	"awardingbody/exchange"
)

const head = "FILE|ENTRY|7|3\n"

// P3.3
func TestParse(t *testing.T) {
	for _, c := range []struct {
		s    string
		want api.File
	}{
		{"FILE|ENTRY|7|3\nROW|12|a\\pb\nEND|1|573\n", example()},
		{closed(head, 0), with()},
		{closed("FILE|A|0|0\n", 0), api.File{Kind: "A"}},
		{closed("FILE|ABCDEFGH|99|9999\n", 0), api.File{Kind: "ABCDEFGH", Source: 99, Number: 9999}},
		{closed(head+"ROW|\n", 1), with([]string{""})},
		{closed(head+"ROW||\nROW| |~\n", 2), with([]string{"", ""}, []string{" ", "~"})},
		{closed(head+"ROW|||||||\\n\n", 1), with([]string{"", "", "", "", "", "", "\n"})},
		{closed(head+"ROW|\\\\\\p\\n|pn|\\\\p|\\\\n|\\\\\\\\\n", 1), with([]string{"\\|\n", "pn", "\\p", "\\n", "\\\\"})},
		{closed(head+"ROW|"+strings.Repeat("\\p", 40)+"\n", 1), with([]string{strings.Repeat("|", 40)})},
		{closed(head+"ROW|ROW|END\nROW|FILE\n", 2), with([]string{"ROW", "END"}, []string{"FILE"})},
	} {
		if got, code := exchange.Parse(c.s); !same(got, c.want) || code != api.OK {
			t.Errorf("Parse(%q) is %v, %d", c.s, got, code)
		}
	}
}

// refuse checks that a text gives an error and a file that is zero.
func refuse(t *testing.T, want api.Errno, texts ...string) {
	t.Helper()
	for _, s := range texts {
		if got, code := exchange.Parse(s); !same(got, api.File{}) || code != want {
			t.Errorf("Parse(%q) is %v, %d, not %d", s, got, code, want)
		}
	}
}

// P3.3: errors of the whole text, also if its lines have others
func TestParseWhole(t *testing.T) {
	refuse(t, api.ErrLimit, strings.Repeat("x", 8193), strings.Repeat("\n", 8193), closed(head+strings.Repeat("ROW|\n", 1700), 40), strings.Repeat("x", 1<<20))
	refuse(t, api.ErrSyntax, "", "x", "\n", "x\n", head, "END|0|0\n", "END|0|0", closed(head, 0)+"x", closed(head, 0)+"\r", strings.TrimSuffix(closed(head, 0), "\n"),
		"x\ny", "\n\nx", strings.Repeat("x", 8192), strings.Repeat("x", 8191)+"\n", "FILE|ENTRY|7|3|END|0|0\n")
	refuse(t, api.ErrHeader, "\n\n", "\n\n\n", "x\n\n", "\n"+closed(head, 0), strings.Repeat("\n", 8192))
}

// P3.3: texts at the limit
func TestParseLimit(t *testing.T) {
	fits := 0
	for n := 8150; n <= 8220; n++ {
		f := ofLength(n)
		s := textOf(f)
		if len(s) > api.MaxText {
			refuse(t, api.ErrLimit, s)
			continue
		}
		if got, code := exchange.Parse(s); !same(got, f) || code != api.OK {
			t.Errorf("of %d bytes: %v, %d", len(s), got, code)
		}
		if len(s) == api.MaxText {
			fits++
		}
	}
	if fits == 0 {
		t.Error("no text is as long as it may be")
	}
}

// P3.3: also if the trailer and the rows are wrong
func TestParseHeader(t *testing.T) {
	for _, line := range []string{
		"", "FILE", "FILE|", "FILE|||", "FILE|ENTRY|7", "FILE|ENTRY|7|", "FILE|ENTRY||3", "FILE||7|3", "FILE|ENTRY|7|3|", "FILE|ENTRY|7|3|0", "|FILE|ENTRY|7|3", "FILE||ENTRY|7|3",
		"file|ENTRY|7|3", "FILES|ENTRY|7|3", " FILE|ENTRY|7|3", "FILE |ENTRY|7|3", "FILE|ENTRY|7|3 ", "FILE|ENTRY|7|3\r", "FILE|ENTRY|7|3\x00", "ROW|ENTRY|7|3", "FILE/ENTRY/7/3", "ILE|ENTRY|7|3",
		"FILE|entry|7|3", "FILE|ENTRy|7|3", "FILE|ABCDEFGHI|7|3", "FILE|E1|7|3", "FILE|E |7|3", "FILE|\u00c4|7|3", "FILE|[|7|3", "FILE|@|7|3", "FILE|A\\pB|7|3",
		"FILE|ENTRY|07|3", "FILE|ENTRY|00|3", "FILE|ENTRY|+7|3", "FILE|ENTRY|-7|3", "FILE|ENTRY|-0|3", "FILE|ENTRY|100|3", "FILE|ENTRY|x|3", "FILE|ENTRY|7.0|3", "FILE|ENTRY| 7|3", "FILE|ENTRY|0x7|3", "FILE|ENTRY|1_0|3",
		"FILE|ENTRY|7|03", "FILE|ENTRY|7|0003", "FILE|ENTRY|7|+3", "FILE|ENTRY|7|-1", "FILE|ENTRY|7|-0", "FILE|ENTRY|7|10000", "FILE|ENTRY|7|99999", "FILE|ENTRY|7|1e3", "FILE|ENTRY|7|\uff13", "FILE|ENTRY|7|3x",
		"FILE|ENTRY|18446744073709551623|3", "FILE|ENTRY|7|18446744073709551619", "FILE|ENTRY|4294967303|3", "FILE|ENTRY|7|" + strings.Repeat("9", 1000), strings.Repeat("|", 1000),
	} {
		refuse(t, api.ErrHeader, closed(line+"\n", 0), closed(line+"\nROW|a\n", 1), line+"\nROW\nEND|9|9999\n", line+"\nROW\nend\n", line+"\n\n")
	}
}

// P3.3: also if the rows are wrong
func TestParseTrailer(t *testing.T) {
	for _, line := range []string{
		"", "END", "END|", "END||", "END|0", "END|0|", "END||0", "END|0|0|", "END|0|0|0", "|END|0|0", "END||0|0", "end|0|0", "END |0|0", " END|0|0", "ENDS|0|0", "ND|0|0", "END|0|0 ", "END|0|0\r", "END|0|0\x00", "ROW|0|0", "END/0/0",
		"END|00|0", "END|0|00", "END|01|0", "END|0|01", "END|0|0001", "END|0|10000", "END|10000|0", "END|0|99999", "END|+0|1", "END|0|+1", "END|-0|1", "END|0|-0", "END|0|-1", "END|-1|0", "END|x|0", "END|0|x", "END|0x1|0", "END|0|1_0", "END|0|1.0",
		"END|18446744073709551616|0", "END|0|18446744073709551616", "END|4294967296|0", "END|0|\uff11", "END|0|" + strings.Repeat("1", 1000), "ROW|a",
	} {
		refuse(t, api.ErrTrailer, head+line+"\n", head+"ROW|a\n"+line+"\n", head+"ROW\n"+line+"\n", head+"\x00\n"+line+"\n", closed(head, 0)+line+"\n")
	}
}

// P3.3: also if the number of rows and the check number are wrong
func TestParseRows(t *testing.T) {
	long := strings.Repeat("x", 41)
	for _, line := range []string{
		"", "ROW", "row|a", "ROWS|a", " ROW|a", "ROW |a", "ROW\\p", "OW|a", "|ROW|a", "R|a", "END|0|0", "FILE|ENTRY|7|3", "a", "|", "||",
		"ROW|\\", "ROW|a\\", "ROW|\\|", "ROW|\\\\\\", "ROW|a\\x", "ROW|\\P", "ROW|\\N", "ROW|\\r", "ROW|\\0", "ROW|\\ ", "ROW|a|\\a|b", "ROW|\\\x00",
		"ROW|\x00", "ROW|\x01", "ROW|\t", "ROW|a\r", "ROW|\x1f", "ROW|\x7f", "ROW|\x80", "ROW|\xff", "ROW|\u00e9", "ROW|a|\x1b|b", "ROW|a\x0b",
		"ROW" + strings.Repeat("|", 9), "ROW" + strings.Repeat("|a", 9), "ROW" + strings.Repeat("|", 1000), "ROW|" + long, "ROW|a|" + long, "ROW|" + long + "|a", "ROW|" + strings.Repeat("\\p", 41), "ROW|" + strings.Repeat("\\\\", 41), "ROW|" + strings.Repeat("\\n", 41),
	} {
		refuse(t, api.ErrSyntax, closed(head+line+"\n", 1), closed(head+line+"\n", 2), head+line+"\nEND|1|9999\n", closed(head+"ROW|a\n"+line+"\n", 2), closed(head+line+"\nROW|a\n", 2),
			closed(head+line+"\n"+strings.Repeat("ROW|\n", 50), 51), closed(head+strings.Repeat("ROW|\n", 50)+line+"\n", 51))
	}
}

// P3.3: the number of rows, also if the check number is wrong, and then the check number
func TestParseNumbers(t *testing.T) {
	row := "ROW|a\n"
	for _, n := range []int{0, 1, 2, 39, 40, 41, 42, 1000} {
		body := head + strings.Repeat(row, n)
		for _, count := range []int{0, 1, 2, 38, 39, 40, 41, 42, 43, 999, 1000, 1001, 9999} {
			wrong := (checkOf(body) + 1) % 9973
			if count != n || n > 40 {
				refuse(t, api.ErrCount, closed(body, count), fmt.Sprintf("%sEND|%d|%d\n", body, count, wrong), fmt.Sprintf("%sEND|%d|9999\n", body, count))
			} else if got, code := exchange.Parse(closed(body, count)); len(got.Rows) != n || code != api.OK {
				t.Errorf("with %d rows: %v, %d", n, got, code)
			}
		}
	}
	body := head + row
	for check := range 10000 {
		if check != checkOf(body) {
			refuse(t, api.ErrChecksum, fmt.Sprintf("%sEND|1|%d\n", body, check))
		}
	}
}

// P3.3: a check number is less than 9973, so that another number with its remainder is wrong
func TestParseRemainders(t *testing.T) {
	checked := 0
	for i := range 10000 {
		body := fmt.Sprintf("FILE|A|%d|%d\nROW|%s\n", i%100, i, strings.Repeat("~", i%41))
		if other := checkOf(body) + 9973; other <= 9999 {
			refuse(t, api.ErrChecksum, fmt.Sprintf("%sEND|1|%d\n", body, other))
			checked++
		}
	}
	if checked == 0 {
		t.Error("there is no other number with 4 digits")
	}
}

// P3.3: texts that are almost right, compared with the definitions of the chapter
func TestParseOfSamples(t *testing.T) {
	random := rand.New(rand.NewPCG(7, 8))
	found := map[api.Errno]int{}
	for range 60000 {
		s := damaged(random, textOf(randomFile(random, 4)))
		want, wantCode := parseOf(s)
		found[wantCode]++
		if got, code := exchange.Parse(s); !same(got, want) || code != wantCode {
			t.Fatalf("Parse(%q) is %v, %d, not %v, %d", s, got, code, want, wantCode)
		}
	}
	for _, code := range []api.Errno{api.OK, api.ErrSyntax, api.ErrHeader, api.ErrTrailer, api.ErrCount, api.ErrChecksum} {
		if found[code] < 500 {
			t.Errorf("only %d texts give %d", found[code], code)
		}
	}
}

// damaged returns a text with a few changes, mostly with a trailer that is right again.
func damaged(random *rand.Rand, s string) string {
	const signs = "|\\\npnROWENDFILE0123456789 ~\x00\t\r\x1f\x7f\xc3a"
	body := s[:strings.LastIndexByte(s[:len(s)-1], '\n')+1]
	again := random.IntN(4) > 0
	if again {
		s = body
	}
	b := []byte(s)
	for range random.IntN(4) {
		i, c := random.IntN(len(b)), signs[random.IntN(len(signs))]
		switch random.IntN(3) {
		case 0:
			b[i] = c
		case 1:
			b = append(b[:i], append([]byte{c}, b[i:]...)...)
		default:
			b = append(b[:i], b[i+1:]...)
		}
	}
	if !again {
		return string(b)
	}
	rows := strings.Count(string(b), "\n") - 1
	if random.IntN(8) == 0 {
		rows += 1 + random.IntN(3)
	}
	return closed(string(b), max(rows, 0))
}
