// Package num is layer 1, numbers with three places, as texts: see shared/doc/01-num.md.
package num

import (
	"strconv"
	"strings"

	"watchtower/api"
)

const (
	places = "000" // what stands behind the point of a whole number
	one    = 1000  // how many thousandths a whole one has
)

// Sane: is it a number?
func Sane(v int) bool { return -api.Max <= v && v <= api.Max }

// Print is a number's text.
func Print(v int) string {
	if !Sane(v) {
		return ""
	}
	if v < 0 {
		return "-" + printUnsigned(-v)
	}
	return printUnsigned(v)
}

func printUnsigned(v int) string {
	whole := strconv.Itoa(v / one)
	if v%one == 0 {
		return whole
	}
	// The 1 of one is ahead of the thousandths, so that they keep their zeros, and is then left out.
	part := strconv.Itoa(one + v%one)[1:]
	return whole + "." + strings.TrimRight(part, "0")
}

// Parse is the number that a text is.
func Parse(s string) (int, api.Errno) {
	unsigned, below := strings.CutPrefix(s, "-")
	whole, part, point := strings.Cut(unsigned, ".")
	if point && (part == "" || len(part) > len(places)) {
		return 0, api.ErrForm
	}
	v, ok := digits(whole + (part + places)[:len(places)])
	if whole == "" || !ok {
		return 0, api.ErrForm
	}
	if !Sane(v) {
		return 0, api.ErrRange
	}
	if below {
		return -v, api.OK
	}
	return v, api.OK
}

// digits is the number that digits are, or some number above api.Max if they are more than that; false if s has anything but digits.
func digits(s string) (int, bool) {
	v := 0
	for _, c := range s {
		if c < '0' || c > '9' {
			return 0, false
		}
		if v <= api.Max { // more digits could only wrap v round
			v = 10*v + int(c-'0')
		}
	}
	return v, true
}
