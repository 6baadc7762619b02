package num

import (
	"math"
	"math/big"
	"math/rand"
	"regexp"
	"strconv"
	"strings"
	"testing"

	"watchtower/api"
)

// printed has numbers and their texts, as P1.1 asks for them.
var printed = []struct {
	v int
	s string
}{
	{0, "0"},
	{1, "0.001"},
	{-1, "-0.001"},
	{9, "0.009"},
	{10, "0.01"},
	{20, "0.02"},
	{99, "0.099"},
	{100, "0.1"},
	{-100, "-0.1"},
	{101, "0.101"},
	{110, "0.11"},
	{999, "0.999"},
	{-999, "-0.999"},
	{1000, "1"},
	{-1000, "-1"},
	{1001, "1.001"},
	{-1500, "-1.5"},
	{10000, "10"},
	{10010, "10.01"},
	{12345, "12.345"},
	{100000, "100"},
	{-120300, "-120.3"},
	{1<<53 - 1, "9007199254740.991"},
	{1 << 53, "9007199254740.992"},
	{-1<<53 + 1, "-9007199254740.991"},
	{-1 << 53, "-9007199254740.992"},
}

// others are no numbers: just beyond the bounds, and as far off as an int goes.
var others = []int{1<<53 + 1, -1<<53 - 1, 1 << 54, -1 << 54, 1 << 62, -1 << 62, math.MaxInt, math.MinInt, math.MinInt + 1}

func TestSane(t *testing.T) {
	for _, x := range printed {
		if !Sane(x.v) {
			t.Errorf("Sane(%d) is false", x.v)
		}
	}
	for _, v := range others {
		if Sane(v) {
			t.Errorf("Sane(%d) is true", v)
		}
	}
}

func TestPrint(t *testing.T) {
	for _, x := range printed {
		if s := Print(x.v); s != x.s {
			t.Errorf("Print(%d) is %q, not %q", x.v, s, x.s)
		}
	}
	for _, v := range others {
		if s := Print(v); s != "" {
			t.Errorf("Print(%d) is %q, not empty", v, s)
		}
	}
}

func TestParse(t *testing.T) {
	for _, x := range printed {
		expectParse(t, x.s, x.v, api.OK)
	}
	for s, v := range map[string]int{
		"00": 0, "-0": 0, "-0.000": 0, "0.0": 0, "0.00": 0, "000000": 0,
		"007.50": 7500, "-007.50": -7500, "01": 1000, "1.0": 1000, "1.00": 1000, "1.000": 1000,
		"1.2": 1200, "1.02": 1020, "1.002": 1002, "1.020": 1020, "-1.20": -1200, "1234567890": 1234567890000,
		"9007199254740.99":                          9007199254740990,
		"009007199254740.992":                       1 << 53,
		"-009007199254740.992":                      -1 << 53,
		strings.Repeat("0", 100) + "1.5":            1500,
		strings.Repeat("0", 100):                    0,
		strings.Repeat("0", 1<<16) + "12":           12000,
		"-" + strings.Repeat("0", 100) + "12.345":   -12345,
		"-" + strings.Repeat("0", 1<<16) + "12.345": -12345,
	} {
		expectParse(t, s, v, api.OK)
	}
}

func TestParseErrForm(t *testing.T) {
	for _, s := range []string{
		"", "-", ".", "-.", ".5", "-.5", "1.", "-1.", "0.", ".000", "1..", "1..5", "1.2.3", "1.2.", "1.23.", ".1.2",
		"1.2345", "1.0000", "0.0000", "1.00000000000000000000000", "9007199254740.9920",
		"--1", "---", "-+1", "+1", "+", "1-", "1-2", "1.-5", "1.5-", "- 1", "-1.-5",
		" ", " 1", "1 ", "1 .5", "1. 5", "1.5 ", "\t1", "1\n", "1\r\n", "1\x00", "\x001",
		"a", "1a", "a1", "1.a", "1.5a", "1.a5", "0x10", "0b1", "0o7", "1e3", "1E3", "1_000", "1,5", "1,000", "1/2", "1:2", "/", ":",
		"NaN", "Inf", "-Inf", "nil", "1ms", "1é", "é1", "1.é", "1.5é", "1.é5", "\u22121",
		"\u0661", "1\u0662", "\uff11", "1.\uff15", "1\uff0e5", "\u00b2", "\u00bd",
		"\xff", "1\xff", "1.\xff", "1.5\xff", "\xff1", "1\xc3", "\xed\xa0\x80", "1.\xff\xff\xff", "1\xc3.\xa9", "\ufffd",
	} {
		expectParse(t, s, 0, api.ErrForm)
	}
}

func TestParseErrRange(t *testing.T) {
	for _, s := range []string{
		"9007199254740.993", "-9007199254740.993", "9007199254741", "-9007199254741", "9007199254741.0", "10000000000000",
		"9007199254740992", "-9007199254740992", "9007199254740992.5", "90071992547409920", "900719925474099.2", "9007199254740993",
		"9223372036854775.807", "9223372036854775.808", "-9223372036854775.808",
		"9223372036854775807", "9223372036854775808", "-9223372036854775808", "-9223372036854775809",
		"18446744073709551.616", "18446744073709551.617", "18446744073709551616", "-18446744073709551617",
		"99999999999999999999999999", "99999999999999999999999999.999", "-99999999999999999999999999.9",
		"1" + strings.Repeat("0", 1<<16), "-" + strings.Repeat("9", 1<<16) + ".999",
	} {
		expectParse(t, s, 0, api.ErrRange)
	}
}

// A text that is out of range up to where its form is wrong is of a wrong form: both errors apply, and ErrForm is told first.
func TestParseErrFormAheadOfErrRange(t *testing.T) {
	large := strings.Repeat("9", 30)
	for _, s := range []string{"x", ".", ".1234", ".12x", ".1.2", " ", "-", "\xff", "é", ".é"} {
		expectParse(t, large+s, 0, api.ErrForm)
		expectParse(t, "-"+large+s, 0, api.ErrForm)
	}
}

// P1.3, at the edges and at numbers of all sizes.
func TestPrintedIsParsed(t *testing.T) {
	r := rand.New(rand.NewSource(1))
	for v := -20000; v <= 20000; v++ {
		expectRound(t, v)
	}
	for shift := range 54 {
		for d := -2; d <= 2; d++ {
			expectRound(t, 1<<shift+d)
			expectRound(t, -1<<shift+d)
			v := r.Intn(1<<shift) + d
			expectRound(t, v)
			expectRound(t, -v)
		}
	}
	for v := 1; v <= api.Max; v *= 10 {
		for d := -1; d <= 1; d++ {
			expectRound(t, v+d)
			expectRound(t, -v+d)
		}
	}
}

// P1.1 and P1.2 hold against what the library makes of the same texts.
func TestParseAsTheLibraryDoes(t *testing.T) {
	signs := []string{"0", "1", "9", ".", "-", "x"}
	for n := range 7 {
		eachText(signs, n, func(s string) {
			v, e := modelParse(s)
			expectParse(t, s, v, e)
		})
	}
	r := rand.New(rand.NewSource(2))
	for range 50000 {
		v := r.Intn(1<<54) - 1<<53 + r.Intn(7) - 3
		s := strconv.Itoa(v/1000) + "." + strconv.Itoa(r.Intn(2000))
		want, e := modelParse(s)
		expectParse(t, s, want, e)
	}
}

// P1: no arguments make a call panic, or go on for ever.
func FuzzParse(f *testing.F) {
	for _, s := range []string{"", "-", "0", "-1.5", "007.50", "1.2345", "9007199254740.992", "9007199254740.993", "1é", "\xff"} {
		f.Add(s)
	}
	f.Fuzz(func(t *testing.T, s string) {
		v, e := modelParse(s)
		expectParse(t, s, v, e)
	})
}

func FuzzPrint(f *testing.F) {
	for _, v := range others {
		f.Add(v)
	}
	f.Fuzz(func(t *testing.T, v int) {
		if Sane(v) {
			expectRound(t, v)
		} else if s := Print(v); s != "" {
			t.Errorf("Print(%d) is %q, not empty", v, s)
		}
	})
}

func expectParse(t *testing.T, s string, v int, e api.Errno) {
	t.Helper()
	if gotV, gotE := Parse(s); gotV != v || gotE != e {
		t.Errorf("Parse(%.80q) is %d, %v, not %d, %v", s, gotV, gotE, v, e)
	}
}

// expectRound asks that v's text is as P1.1 says, is parsed to v, and is printed alike, where v is a number.
func expectRound(t *testing.T, v int) {
	t.Helper()
	if !Sane(v) {
		return
	}
	s := Print(v)
	if !printedForm.MatchString(s) {
		t.Errorf("Print(%d) is %q, which is not the form of a printed number", v, s)
	}
	got, e := Parse(s)
	if got != v || e != api.OK || Print(got) != s {
		t.Errorf("Print(%d) is %q, which is parsed to %d, %v, and printed %q", v, s, got, e, Print(got))
	}
}

var (
	printedForm = regexp.MustCompile(`^(0|-?([1-9][0-9]*|0\.[0-9]{0,2}[1-9]|[1-9][0-9]*\.[0-9]{0,2}[1-9]))$`)
	parsedForm  = regexp.MustCompile(`^-?[0-9]+(\.[0-9]{1,3})?$`)
)

// modelParse is P1.2 by a regular expression and by fractions of any size.
func modelParse(s string) (int, api.Errno) {
	if !parsedForm.MatchString(s) {
		return 0, api.ErrForm
	}
	x, _ := new(big.Rat).SetString(s)
	x.Mul(x, big.NewRat(1000, 1))
	if x.Cmp(big.NewRat(-api.Max, 1)) < 0 || x.Cmp(big.NewRat(api.Max, 1)) > 0 {
		return 0, api.ErrRange
	}
	return int(x.Num().Int64()), api.OK
}

// eachText calls f with each text of n of the pieces.
func eachText(pieces []string, n int, f func(string)) {
	if n == 0 {
		f("")
		return
	}
	eachText(pieces, n-1, func(s string) {
		for _, p := range pieces {
			f(s + p)
		}
	})
}
