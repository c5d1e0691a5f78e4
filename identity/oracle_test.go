package identity_test

import (
	"fmt"
	"math/rand/v2"
	"regexp"
	"slices"
	"strconv"
	"strings"

	"awardingbody/api"
)

// order has the check letters by their numbers: I, O and Z are none.
const order = "ABCDEFGHJKLMNPQRSTUVWXY"

var form = regexp.MustCompile(`\A([0-9]{2})([0-9]{2})([0-9]{4})[A-HJ-NP-Y]\z`)

// letterOf follows the definition of the check letter word by word.
func letterOf(eight string) string {
	sum := 0
	for i, weight := range []int{1, 2, 3, 4, 5, 6, 7, 8} {
		d, _ := strconv.Atoi(eight[i : i+1])
		sum += weight * d
	}
	return strings.Split(order, "")[sum%23]
}

// numberOf is the candidate number of a valid ID.
func numberOf(x api.CandidateID) string {
	eight := fmt.Sprintf("%02d%02d%04d", x.Centre, x.Year, x.Candidate)
	return eight + letterOf(eight)
}

func isNumber(s string) bool { return form.MatchString(s) && s[8:] == letterOf(s[:8]) }

// parseOf follows P4.3 word by word.
func parseOf(s string) (api.CandidateID, api.Errno) {
	fields := form.FindStringSubmatch(s)
	if fields == nil {
		return api.CandidateID{}, api.ErrSyntax
	}
	if !isNumber(s) {
		return api.CandidateID{}, api.ErrLetter
	}
	centre, _ := strconv.Atoi(fields[1])
	year, _ := strconv.Atoi(fields[2])
	candidate, _ := strconv.Atoi(fields[3])
	return id(centre, year, candidate), api.OK
}

// replaced returns s with another byte at a place.
func replaced(s string, place int, c byte) string {
	b := []byte(s)
	b[place] = c
	return string(b)
}

// numbersAt returns the candidate numbers among the texts with any byte at a place.
func numbersAt(s string, place int) []string {
	var found []string
	for c := range 256 {
		if r := replaced(s, place, byte(c)); isNumber(r) {
			found = append(found, r)
		}
	}
	return found
}

// fillOf follows P4.4 word by word.
func fillOf(s string) []string {
	if len(s) != 9 || strings.Count(s, "?") != 1 {
		return nil
	}
	return numbersAt(s, strings.Index(s, "?"))
}

// nearOf follows P4.5 word by word.
func nearOf(s string) []string {
	if !form.MatchString(s) {
		return nil
	}
	var found []string
	for place := range len(s) {
		for _, r := range numbersAt(s, place) {
			if r != s {
				found = append(found, r)
			}
		}
	}
	slices.Sort(found)
	return found
}

// ids are the corners of the valid IDs, and others from everywhere among them.
func ids() []api.CandidateID {
	var all []api.CandidateID
	for _, centre := range []int{0, 1, 9, 10, 98, 99} {
		for _, year := range []int{0, 1, 9, 10, 98, 99} {
			for _, candidate := range []int{0, 1, 9, 10, 99, 100, 999, 1000, 1234, 9998, 9999} {
				all = append(all, id(centre, year, candidate))
			}
		}
	}
	random := rand.New(rand.NewPCG(15, 16))
	for range 1500 {
		all = append(all, id(random.IntN(100), random.IntN(100), random.IntN(10000)))
	}
	return all
}

// wrong are texts of eight digits and one of the letters that are no candidate numbers.
func wrong() []string {
	random := rand.New(rand.NewPCG(17, 18))
	texts := []string{"00000000B", "00000000J", "00000000Y", "99999999A", "99999999Y", "12345678A", "00000001A"}
	for len(texts) < 400 {
		k := random.IntN(len(order))
		if s := fmt.Sprintf("%08d%s", random.IntN(100000000), order[k:k+1]); !isNumber(s) {
			texts = append(texts, s)
		}
	}
	return texts
}

// malformed are texts that do not consist of eight digits and one of the letters.
func malformed() []string {
	texts := []string{
		"", "A", "?", "\x00", "J", "00000001", "0000000J", "00000001JJ", "000000001J", "00000001J ", " 00000001J", "00000001J\n", "\n00000001J", "00000001J\x00",
		"000000001", "AAAAAAAAA", "J00000001", "0000J0001", "         ", "?????????", "00000001?", "0000000?J", "+0000001J", "-0000001J", " 0000001J", "0x000001J", "1e000001J", "0.000001J",
		"00000001j", "00000001I", "00000001O", "00000001Z", "00000001@", "00000001[", "00000001a", "00000001\u00c4", "0000000\u00c4", "\u0660000000J", "\u0660\u0660\u0660\u0660J", "\uff100000\uff11", "000000\u00b2J",
		strings.Repeat("0", 1<<16) + "A", "00000001J" + strings.Repeat("00000001J", 1000),
	}
	for place := range 9 {
		for c := range 256 {
			if s := replaced("00000001J", place, byte(c)); !form.MatchString(s) {
				texts = append(texts, s)
			}
		}
	}
	return texts
}
