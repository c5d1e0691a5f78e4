package exchange

import (
	"iter"
	"strconv"
	"strings"

	"awardingbody/api"
)

// Format returns the text of a file.
func Format(f api.File) (string, api.Errno) {
	if !Valid(f) {
		return "", api.ErrInvalid
	}
	var body strings.Builder
	for line := range written(f) {
		body.WriteString(line + "\n")
	}
	text := body.String() + trailer(len(f.Rows), Check(body.String())) + "\n"
	if len(text) > api.MaxText {
		return "", api.ErrLimit
	}
	return text, api.OK
}

// written returns the lines of the text of a file but for the trailer, which needs all of them.
func written(f api.File) iter.Seq[string] {
	return func(yield func(string) bool) {
		if !yield(header(f)) {
			return
		}
		for _, row := range f.Rows {
			if !yield(rowLine(row)) {
				return
			}
		}
	}
}

func header(f api.File) string {
	return "FILE|" + f.Kind + "|" + strconv.Itoa(f.Source) + "|" + strconv.Itoa(f.Number)
}

func rowLine(row []string) string {
	var line strings.Builder
	line.WriteString("ROW")
	for _, field := range row {
		line.WriteString("|" + escaped(field))
	}
	return line.String()
}

func trailer(rows, check int) string {
	return "END|" + strconv.Itoa(rows) + "|" + strconv.Itoa(check)
}

// escaped returns what is written for a field.
func escaped(field string) string {
	var text strings.Builder
	for i := range len(field) {
		switch field[i] {
		case '\\':
			text.WriteString(`\\`)
		case '|':
			text.WriteString(`\p`)
		case '\n':
			text.WriteString(`\n`)
		default:
			text.WriteByte(field[i])
		}
	}
	return text.String()
}
