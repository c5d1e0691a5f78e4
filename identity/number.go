package identity

import (
	"strings"

	"awardingbody/api"
)

const (
	places  = 8 // of the digits; the letter is behind them
	digits  = "0123456789"
	letters = "ABCDEFGHJKLMNPQRSTUVWXY"

	// what one year and one centre are worth, if the eight digits are read as one number
	yearUnit   = 10000
	centreUnit = 100 * yearUnit
)

// number has the bytes of a candidate number, or of a text that is as long as one.
type number [places + 1]byte

// read returns the bytes of s, and whether there are as many as in a candidate number.
func read(s string) (number, bool) {
	var n number
	if len(s) != len(n) {
		return n, false
	}
	copy(n[:], s)
	return n, true
}

// numberOf returns the candidate number of a valid ID.
func numberOf(x api.CandidateID) number {
	var n number
	rest := x.Centre*centreUnit + x.Year*yearUnit + x.Candidate
	for place := places - 1; place >= 0; place-- {
		n[place] = digits[rest%10]
		rest /= 10
	}
	n[places] = n.letter()
	return n
}

// id returns the ID for which the digits stand.
func (n number) id() api.CandidateID {
	value := 0
	for place := range places {
		value = 10*value + n.digit(place)
	}
	return api.CandidateID{
		Centre:    value / centreUnit,
		Year:      value % centreUnit / yearUnit,
		Candidate: value % yearUnit,
	}
}

func (n number) digit(place int) int { return int(n[place] - '0') }

// letter returns the check letter of the digits.
func (n number) letter() byte {
	sum := 0
	for place := range places {
		sum += (place + 1) * n.digit(place)
	}
	return letters[sum%len(letters)]
}

func (n number) hasDigits() bool {
	for place := range places {
		if n[place] < '0' || n[place] > '9' {
			return false
		}
	}
	return true
}

// wellFormed reports whether there are eight digits and one of the letters, be it the right one or not.
func (n number) wellFormed() bool {
	return n.hasDigits() && strings.IndexByte(letters, n[places]) >= 0
}

// correct reports whether the letter of a well-formed number is that of its digits.
func (n number) correct() bool { return n[places] == n.letter() }

// replacements returns, in ascending order, the candidate numbers that differ from n at this place alone.
func (n number) replacements(place int) []string {
	symbols := digits
	if place == places {
		symbols = letters
	}
	var found []string
	for i := range len(symbols) {
		other := n
		other[place] = symbols[i]
		if other != n && other.wellFormed() && other.correct() {
			found = append(found, string(other[:]))
		}
	}
	return found
}
