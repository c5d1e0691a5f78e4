package exchange_test

import (
	"fmt"
	"math/rand/v2"
	"regexp"
	"slices"
	"strconv"
	"strings"

	"awardingbody/api"
)

// checkOf follows the definition of the check number: one division at the end.
func checkOf(s string) int {
	sum := 0
	for i, c := range []byte(s) {
		sum += (i%251 + 1) * int(c)
	}
	return sum % 9973
}

// closed returns a text with a right check number.
func closed(body string, rows int) string {
	return fmt.Sprintf("%sEND|%d|%d\n", body, rows, checkOf(body))
}

// textOf is the text of a file, of whatever length.
func textOf(f api.File) string {
	body := fmt.Sprintf("FILE|%s|%d|%d\n", f.Kind, f.Source, f.Number)
	for _, row := range f.Rows {
		body += "ROW"
		for _, field := range row {
			field = strings.ReplaceAll(field, `\`, `\\`)
			field = strings.ReplaceAll(field, "|", `\p`)
			body += "|" + strings.ReplaceAll(field, "\n", `\n`)
		}
		body += "\n"
	}
	return closed(body, len(f.Rows))
}

var (
	headers  = regexp.MustCompile(`^FILE\|([A-Z]{1,8})\|(0|[1-9][0-9]?)\|(0|[1-9][0-9]{0,3})$`)
	trailers = regexp.MustCompile(`^END\|(0|[1-9][0-9]{0,3})\|(0|[1-9][0-9]{0,3})$`)
	// In a field there are the bytes from 32 to 126 but for \ and |, and three escapes.
	rows    = regexp.MustCompile(`^ROW(\|([ -\[\]-{}~]|\\[\\pn]){0,40}){1,8}$`)
	escapes = regexp.MustCompile(`\\.`)
)

// parseOf follows P3.3 word by word.
func parseOf(s string) (api.File, api.Errno) {
	if len(s) > api.MaxText {
		return api.File{}, api.ErrLimit
	}
	l := strings.Split(s, "\n")
	if last := len(l) - 1; last < 2 || l[last] != "" {
		return api.File{}, api.ErrSyntax
	}
	header, between, trailer := headers.FindStringSubmatch(l[0]), l[1:len(l)-2], trailers.FindStringSubmatch(l[len(l)-2])
	if header == nil {
		return api.File{}, api.ErrHeader
	}
	if trailer == nil {
		return api.File{}, api.ErrTrailer
	}
	f := api.File{Kind: header[1], Source: numberOf(header[2]), Number: numberOf(header[3])}
	for _, line := range between {
		if !rows.MatchString(line) {
			return api.File{}, api.ErrSyntax
		}
		var row []string
		for _, field := range strings.Split(line, "|")[1:] {
			row = append(row, escapes.ReplaceAllStringFunc(field, func(e string) string {
				return map[string]string{`\\`: `\`, `\p`: "|", `\n`: "\n"}[e]
			}))
		}
		f.Rows = append(f.Rows, row)
	}
	if numberOf(trailer[1]) != len(between) || len(between) > 40 {
		return api.File{}, api.ErrCount
	}
	if body := strings.TrimSuffix(s, trailer[0]+"\n"); numberOf(trailer[2]) != checkOf(body) {
		return api.File{}, api.ErrChecksum
	}
	return f, api.OK
}

func numberOf(digits string) int {
	n, _ := strconv.Atoi(digits)
	return n
}

func same(a, b api.File) bool {
	return a.Kind == b.Kind && a.Source == b.Source && a.Number == b.Number && slices.EqualFunc(a.Rows, b.Rows, slices.Equal)
}

// copied returns a file that shares no slices with f.
func copied(f api.File) api.File {
	f.Rows = slices.Clone(f.Rows)
	for i, row := range f.Rows {
		f.Rows[i] = slices.Clone(row)
	}
	return f
}

// fieldBytes are all the bytes that a field may have; those that need an escape stand there more often.
func fieldBytes() string {
	s := strings.Repeat("\n|\\pn", 12)
	for c := byte(32); c <= 126; c++ {
		s += string(rune(c))
	}
	return s
}

// randomFile returns a valid file with at most the given number of rows.
func randomFile(random *rand.Rand, most int) api.File {
	bytes := fieldBytes()
	shortest := max(0, random.IntN(61)-20)
	longest := shortest + random.IntN(41-shortest)
	f := api.File{Source: random.IntN(100) >> random.IntN(8), Number: random.IntN(10000) >> random.IntN(15)}
	for range 1 + random.IntN(8) {
		f.Kind += string(rune('A' + random.IntN(26)))
	}
	for range random.IntN(most + 1) {
		var row []string
		for range 1 + random.IntN(8) {
			field := ""
			for range shortest + random.IntN(longest-shortest+1) {
				field += string(bytes[random.IntN(len(bytes))])
			}
			row = append(row, field)
		}
		f.Rows = append(f.Rows, row)
	}
	return f
}
