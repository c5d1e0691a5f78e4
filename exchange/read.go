package exchange

import (
	"iter"
	"strconv"
	"strings"

	"awardingbody/api"
)

// maxNumber is the greatest number of 4 digits.
const maxNumber = 9999

// Parse returns the file with this text.
func Parse(s string) (api.File, api.Errno) {
	if len(s) > api.MaxText {
		return api.File{}, api.ErrLimit
	}
	body, last, ok := divided(s)
	if !ok {
		return api.File{}, api.ErrSyntax
	}
	first, between, _ := strings.Cut(body, "\n")
	f, ok := parsedHeader(first)
	if !ok {
		return api.File{}, api.ErrHeader
	}
	count, check, ok := parsedTrailer(last)
	if !ok {
		return api.File{}, api.ErrTrailer
	}
	f.Rows, ok = parsedRows(between)
	if !ok {
		return api.File{}, api.ErrSyntax
	}
	if count != len(f.Rows) || count > api.MaxRows {
		return api.File{}, api.ErrCount
	}
	if check != Check(body) {
		return api.File{}, api.ErrChecksum
	}
	return f, api.OK
}

// divided returns the lines before the last one, each with its byte 10, and
// the last one without it, if there are both.
func divided(s string) (string, string, bool) {
	s, ended := strings.CutSuffix(s, "\n")
	start := strings.LastIndexByte(s, '\n') + 1
	return s[:start], s[start:], ended && start > 0
}

// lines returns the lines of a text that is empty or ends with the byte 10.
func lines(text string) iter.Seq[string] {
	return func(yield func(string) bool) {
		for rest := text; rest != ""; {
			var line string
			line, rest, _ = strings.Cut(rest, "\n")
			if !yield(line) {
				return
			}
		}
	}
}

// parsedHeader returns the file with this header and no rows.
func parsedHeader(line string) (api.File, bool) {
	words := strings.Split(line, "|")
	if len(words) != 4 || words[0] != "FILE" {
		return api.File{}, false
	}
	source, ok := parsedNumber(words[2])
	if !ok {
		return api.File{}, false
	}
	number, ok := parsedNumber(words[3])
	if !ok {
		return api.File{}, false
	}
	// The kind is copied because a result shares no memory with an argument.
	f := api.File{Kind: strings.Clone(words[1]), Source: source, Number: number}
	return f, Valid(f)
}

// parsedTrailer returns the number of rows and the check number.
func parsedTrailer(line string) (int, int, bool) {
	words := strings.Split(line, "|")
	if len(words) != 3 || words[0] != "END" {
		return 0, 0, false
	}
	count, ok := parsedNumber(words[1])
	if !ok {
		return 0, 0, false
	}
	check, ok := parsedNumber(words[2])
	return count, check, ok
}

// parsedNumber returns the number with 1 to 4 digits that has this text.
func parsedNumber(s string) (int, bool) {
	n, err := strconv.Atoi(s)
	// Atoi accepts more than one text for a number: with zeros in front, or with a sign.
	return n, err == nil && upTo(n, maxNumber) && strconv.Itoa(n) == s
}

func parsedRows(text string) ([][]string, bool) {
	var rows [][]string
	for line := range lines(text) {
		row, ok := parsedRow(line)
		if !ok {
			return nil, false
		}
		rows = append(rows, row)
	}
	return rows, true
}

func parsedRow(line string) ([]string, bool) {
	fields, ok := strings.CutPrefix(line, "ROW|")
	if !ok {
		return nil, false
	}
	row := strings.Split(fields, "|")
	for i, text := range row {
		row[i], ok = unescaped(text)
		if !ok {
			return nil, false
		}
	}
	return row, validRow(row)
}

// unescaped returns the field for which a text is written. The text contains
// no vertical bar and no byte 10, since it is a part of a line between two bars.
func unescaped(text string) (string, bool) {
	var field strings.Builder
	for i := 0; i < len(text); i++ {
		if text[i] != '\\' {
			field.WriteByte(text[i])
			continue
		}
		i++
		if i == len(text) {
			return "", false
		}
		switch text[i] {
		case '\\':
			field.WriteByte('\\')
		case 'p':
			field.WriteByte('|')
		case 'n':
			field.WriteByte('\n')
		default:
			return "", false
		}
	}
	return field.String(), true
}
