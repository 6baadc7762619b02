package dur

import (
	"math"
	"math/big"
	"math/rand"
	"regexp"
	"strconv"
	"strings"
	"testing"

	"watchtower/api"
)

const (
	day    = 86400000
	hour   = 3600000
	minute = 60000
	second = 1000
)

// printed has durations and their texts, as P2.1 asks for them.
var printed = []struct {
	d int
	s string
}{
	{0, "0s"},

	// each unit alone, at the edges of the one above it
	{1, "1ms"}, {2, "2ms"}, {10, "10ms"}, {100, "100ms"}, {999, "999ms"},
	{second, "1s"}, {2 * second, "2s"}, {10 * second, "10s"}, {59 * second, "59s"},
	{minute, "1m"}, {2 * minute, "2m"}, {30 * minute, "30m"}, {59 * minute, "59m"},
	{hour, "1h"}, {2 * hour, "2h"}, {20 * hour, "20h"}, {23 * hour, "23h"},
	{day, "1d"}, {2 * day, "2d"}, {10 * day, "10d"}, {365 * day, "365d"}, {104249991 * day, "104249991d"},

	// one unit turning into the next
	{second - 1, "999ms"}, {second + 1, "1s1ms"},
	{minute - 1, "59s999ms"}, {minute + 1, "1m1ms"},
	{hour - 1, "59m59s999ms"}, {hour + 1, "1h1ms"},
	{day - 1, "23h59m59s999ms"}, {day + 1, "1d1ms"}, {2*day - 1, "1d23h59m59s999ms"},

	// all units together, and some left out
	{day + hour + minute + second + 1, "1d1h1m1s1ms"},
	{12*day + 10*hour + 20*minute + 30*second + 400, "12d10h20m30s400ms"},
	{hour + minute + second + 1, "1h1m1s1ms"},
	{day + minute + second + 1, "1d1m1s1ms"},
	{day + hour + second + 1, "1d1h1s1ms"},
	{day + hour + minute + 1, "1d1h1m1ms"},
	{day + hour + minute + second, "1d1h1m1s"},
	{minute + 5, "1m5ms"}, {hour + second, "1h1s"}, {day + minute, "1d1m"}, {90 * minute, "1h30m"},

	{1<<53 - 1, "104249991d8h59m991ms"},
	{1 << 53, "104249991d8h59m992ms"},
}

// others are no durations: just beyond the bounds, and as far off as an int goes.
var others = []int{-1, -2, -second, -day, 1<<53 + 1, 1<<53 + 2, -1 << 53, 1 << 54, 1 << 62, -1 << 62, math.MaxInt, math.MinInt, math.MinInt + 1}

func TestSane(t *testing.T) {
	for _, x := range printed {
		if !Sane(x.d) {
			t.Errorf("Sane(%d) is false", x.d)
		}
	}
	for _, d := range others {
		if Sane(d) {
			t.Errorf("Sane(%d) is true", d)
		}
	}
}

func TestPrint(t *testing.T) {
	for _, x := range printed {
		if s := Print(x.d); s != x.s {
			t.Errorf("Print(%d) is %q, not %q", x.d, s, x.s)
		}
	}
	for _, d := range others {
		if s := Print(d); s != "" {
			t.Errorf("Print(%d) is %q, not empty", d, s)
		}
	}
}

func TestParse(t *testing.T) {
	for _, x := range printed {
		expectParse(t, x.s, x.d, api.OK)
	}
	zeros := strings.Repeat("0", 1<<16)
	for s, d := range map[string]int{
		// how it is written does not matter: zeros ahead, parts of nothing, more than goes into the unit above
		"0d": 0, "0h": 0, "0m": 0, "0s": 0, "0ms": 0, "00s": 0, "0d0ms": 0, "0d0h0m0s0ms": 0,
		"007s": 7 * second, "01d02h03m04s005ms": day + 2*hour + 3*minute + 4*second + 5,
		"1d0h0m0s1ms": day + 1, "0d1h": hour, "1h0s": hour,
		"90m": 90 * minute, "24h": day, "60m": hour, "60s": minute, "1000ms": second, "1001ms": second + 1,
		"25h61m61s1001ms": 25*hour + 61*minute + 61*second + 1001, "86400000ms": day,
		"1m5ms": minute + 5, "1m5s": minute + 5*second, "5m": 5 * minute, "5ms": 5, "1m1ms": minute + 1,

		// 2^53 by each unit alone, as far as it goes, and by several
		"9007199254740992ms":                1 << 53,
		"9007199254740s":                    9007199254740 * second,
		"9007199254740s992ms":               1 << 53,
		"150119987579m":                     150119987579 * minute,
		"150119987579m992ms":                1 << 53,
		"2501999792h":                       2501999792 * hour,
		"2501999792h59m992ms":               1 << 53,
		"104249991d8h":                      104249991*day + 8*hour,
		"104249991d32340992ms":              1 << 53,
		"0d9007199254740992ms":              1 << 53,
		"104249991d8h59m0s992ms":            1 << 53,
		"0104249991d08h059m0992ms":          1 << 53,
		zeros + "s":                         0,
		zeros + "1d" + zeros + "1ms":        day + 1,
		zeros + "9007199254740992ms":        1 << 53,
		zeros + "d" + zeros + "9007199254s": 9007199254 * second,
	} {
		expectParse(t, s, d, api.OK)
	}
}

func TestParseErrForm(t *testing.T) {
	for _, s := range []string{
		// no digit
		"", "d", "h", "m", "s", "ms", "1dh", "1h1dm", "s1", "ms1", "d1h", "1hm", "1d1hms", "1sms",
		// no unit
		"0", "5", "007", "1d5", "1d1h1m1s1", "1s2", "1ms0", "1d0", "9007199254740992",
		// an unknown unit
		"1w", "1y", "1us", "1ns", "1\u00b5s", "1S", "1D", "1H", "1M", "1MS", "1Ms", "1mS", "1sec", "1min", "1hm", "1sm", "1day", "1mss", "1msms", "1mm", "1dd", "1sd", "1msd", "1smd", "1dhmsms", "1d2w", "1w2d", "1dh2", "1sm2s",
		// a unit twice
		"1d1d", "1h1h", "1m1m", "1s1s", "1ms1ms", "0s0s", "1d1h1d", "1h1m1m", "1m1ms1ms", "1d2h3m4s5ms6ms", "0d0d",
		// a greater unit behind a smaller one
		"1h1d", "1m1h", "1s1m", "1ms1s", "1ms1m", "1ms1h", "1ms1d", "1s1h", "1m1d", "1d1m1h", "1d1h1s1m", "1h1ms1s", "0ms0s", "1ms0d", "1s0m",
		// something behind the last unit, ahead of the first digit, or between
		"1s ", "1s\n", "1s\x00", "1ms.", "1ms-", "1d1h ", "1sx", "1s,", "1d é",
		" 1s", "\t1s", "\n1s", "-1s", "+1s", "--1s", "-0s", "x1s", "é1s", ".1s", "\x001s",
		"1 s", "1s 1ms", "1d 1h", "1d,1h", "1d+1h", "1h-1m", "1.5s", "1.s", "1,5s", "1_000s", "1e3s", "0x1s", "1:30", "1/2s", "1m 5ms", "1m-5ms", "1m s",
		// other digits and letters, and what is no letter at all
		"\u0661s", "1\u0662s", "\uff11s", "\u00b2s", "1\uff53", "1\u017f", "1m\u017f", "1és", "1sé", "1\u0455",
		"\xff", "1\xff", "1\xffs", "1s\xff", "\xff1s", "1\xc3s", "1s1\xff", "1m\xff5ms", "\xed\xa0\x80", "1\xed\xa0\x80s", "\ufffd", "1\ufffd",
		strings.Repeat("1s", 1<<14), strings.Repeat("s", 1<<16), strings.Repeat("1", 1<<16), strings.Repeat("\xff", 1<<16), "1" + strings.Repeat("m", 1<<16) + "s", "1d" + strings.Repeat("1", 1<<16),
	} {
		expectParse(t, s, 0, api.ErrForm)
	}
}

func TestParseErrRange(t *testing.T) {
	long := strings.Repeat("9", 1<<16)
	for _, s := range []string{
		// the least that is too much, of each unit and of several
		"9007199254740993ms", "9007199254741s", "150119987580m", "2501999793h", "104249992d",
		"104249991d9h", "104249991d8h60m", "104249991d8h59m1s", "104249991d8h59m993ms", "104249991d8h59m0s993ms", "104249991d32340993ms",
		"9007199254740s993ms", "150119987579m993ms", "2501999792h59m993ms", "1s9007199254739993ms", "1d9007199254740992ms",
		"9007199254740s9007199254740992ms", "104249991d104249991h104249991m9007199254s9007199254740992ms",
		"104249992d0h", "104249992d0ms", "104249992d0h0m0s0ms", "104249992d1h", "9007199254741s0ms", "9007199254741s1ms",
		"000104249992d", "0d2501999793h",
		// what wraps round to something small, or to what is below 0
		"9223372036854775807ms", "9223372036854775808ms", "9223372036854775809ms", "18446744073709551615ms", "18446744073709551616ms", "18446744073709551617ms", "18446744073709551616d",
		"18446744073709552s", "307445734561826m", "5124095576031h", "213503982335d", "106751991168d",
		"9223372036854775807d", "9223372036854775807d9223372036854775807h9223372036854775807m9223372036854775807s9223372036854775807ms",
		"1s9223372036854775807ms",
		// however long
		"99999999999999999999999d", "99999999999999999999999d1h", "1d99999999999999999999999ms",
		long + "d", long + "h", long + "m", long + "s", long + "ms", "1d" + long + "h0m0s0ms", long + "d" + long + "h" + long + "m" + long + "s" + long + "ms",
		"1" + strings.Repeat("0", 1<<16) + "ms", strings.Repeat("0", 1<<16) + "104249992d",
	} {
		expectParse(t, s, 0, api.ErrRange)
	}
}

// A text that is out of range up to where its form is wrong is of a wrong form: both errors apply, and ErrForm is told first.
func TestParseErrFormAheadOfErrRange(t *testing.T) {
	for _, s := range []string{strings.Repeat("9", 30), "104249992", "9007199254740993"} {
		for _, behind := range []string{"", "x", " ", "w", "d ", "d1", "d1d", "d1x", "h1d", "dh", "d1h1m1s1ms1", "\xff", "dé", "d-1h", "ms1s", "s" + s + "d"} {
			expectParse(t, s+behind, 0, api.ErrForm)
		}
		expectParse(t, "1s"+s+"d", 0, api.ErrForm)
		expectParse(t, "-"+s+"d", 0, api.ErrForm)
	}
}

// P2.3, at the edges and at durations of all sizes.
func TestPrintedIsParsed(t *testing.T) {
	r := rand.New(rand.NewSource(1))
	for d := -10; d <= 20000; d++ {
		expectRound(t, d)
	}
	for _, u := range []int{1, second, minute, hour, day} {
		for n := range 1500 {
			for off := -2; off <= 2; off++ {
				expectRound(t, n*u+off)
			}
		}
	}
	for shift := range 54 {
		for off := -2; off <= 2; off++ {
			expectRound(t, 1<<shift+off)
			expectRound(t, r.Intn(1<<shift)+off)
		}
	}
	for range 50000 {
		expectRound(t, r.Intn(api.Max+1))
	}
}

// P2.2 holds against what the library makes of the same texts.
func TestParseAsTheLibraryDoes(t *testing.T) {
	pieces := []string{"0", "7", "d", "h", "m", "s", "ms", "x"}
	for n := range 6 {
		eachText(pieces, n, func(s string) { expectAsModel(t, s) })
	}
	parts := []string{"1d", "02h", "3m", "4s", "5ms", "104249991d", "9007199254740992ms", "9007199254740s", "0s"}
	for n := range 6 {
		eachText(parts, n, func(s string) { expectAsModel(t, s) })
	}
	r := rand.New(rand.NewSource(2))
	for range 50000 {
		s := ""
		for _, u := range []string{"d", "h", "m", "s", "ms"} {
			if r.Intn(2) == 0 {
				s += strconv.Itoa(r.Intn(1<<r.Intn(55))) + u
			}
		}
		expectAsModel(t, s)
	}
}

// P1: no arguments make a call panic, or go on for ever.
func FuzzParse(f *testing.F) {
	for _, s := range []string{"", "0s", "1d1h1m1s1ms", "1m5ms", "90m", "007s", "1s1s", "1ms1s", "104249991d8h59m992ms", "104249992d", "9007199254740993ms", "1é", "\xff"} {
		f.Add(s)
	}
	f.Fuzz(func(t *testing.T, s string) { expectAsModel(t, s) })
}

func FuzzPrint(f *testing.F) {
	for _, d := range others {
		f.Add(d)
	}
	f.Fuzz(func(t *testing.T, d int) {
		if Sane(d) {
			expectRound(t, d)
		} else if s := Print(d); s != "" {
			t.Errorf("Print(%d) is %q, not empty", d, s)
		}
	})
}

func expectParse(t *testing.T, s string, d int, e api.Errno) {
	t.Helper()
	if gotD, gotE := Parse(s); gotD != d || gotE != e {
		t.Errorf("Parse(%.80q) is %d, %v, not %d, %v", s, gotD, gotE, d, e)
	}
}

func expectAsModel(t *testing.T, s string) {
	t.Helper()
	d, e := modelParse(s)
	expectParse(t, s, d, e)
}

// expectRound asks that d's text is as P2.1 says, is parsed to d, and is printed alike, where d is a duration.
func expectRound(t *testing.T, d int) {
	t.Helper()
	if d < 0 || d > api.Max {
		return
	}
	s := Print(d)
	if s == "" || s != "0s" && !printedForm.MatchString(s) {
		t.Errorf("Print(%d) is %q, which is not the form of a printed duration", d, s)
	}
	got, e := Parse(s)
	if got != d || e != api.OK || Print(got) != s {
		t.Errorf("Print(%d) is %q, which is parsed to %d, %v, and printed %q", d, s, got, e, Print(got))
	}
}

var (
	printedForm = regexp.MustCompile(`^([1-9][0-9]*d)?(([1-9]|1[0-9]|2[0-3])h)?([1-5]?[1-9]m|[1-5]0m)?([1-5]?[1-9]s|[1-5]0s)?([1-9][0-9]{0,2}ms)?$`)
	parsedForm  = regexp.MustCompile(`^(?:([0-9]+)d)?(?:([0-9]+)h)?(?:([0-9]+)m)?(?:([0-9]+)s)?(?:([0-9]+)ms)?$`)
)

// modelParse is P2.2 by a regular expression and by whole numbers of any size.
func modelParse(s string) (int, api.Errno) {
	counts := parsedForm.FindStringSubmatch(s)
	if s == "" || counts == nil {
		return 0, api.ErrForm
	}
	sum := new(big.Int)
	for i, size := range []int64{day, hour, minute, second, 1} {
		if counts[i+1] != "" {
			n, _ := new(big.Int).SetString(counts[i+1], 10)
			sum.Add(sum, n.Mul(n, big.NewInt(size)))
		}
	}
	if sum.Cmp(big.NewInt(api.Max)) > 0 {
		return 0, api.ErrRange
	}
	return int(sum.Int64()), api.OK
}

// eachText calls f with each text of n of the pieces.
func eachText(pieces []string, n int, f func(string)) {
	if n == 0 {
		f("")
		return
	}
	eachText(pieces, n-1, func(s string) {
		for _, p := range pieces {
			f(s + p)
		}
	})
}
