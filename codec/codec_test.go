package codec_test

import (
	"bytes"
	"encoding/binary"
	"fmt"
	"math"
	"math/rand"
	"slices"
	"strings"
	"testing"

	"watchtower/api"
	"watchtower/codec"
)

const (
	top   = 1 << 60 // the greatest number that PutUint lays
	high  = 1 << 59 // and PutInt
	large = 1 << 16 // octets of the longest text
)

// uints are numbers that PutUint lays: each power of 2^7 and its neighbours, the ends, and some between.
func uints() []int {
	list := []int{0, 1, 2, 97, 126, 127, 128, 129, 255, 256, 300, 1<<14 - 1, 1 << 14, 1<<16 - 1, 1 << 16, 1<<16 + 1, 1 << 32, 1 << 53, high - 1, high, high + 1, top - 2, top - 1, top}
	for groups := 1; groups <= 8; groups++ {
		n := 1 << (7 * groups)
		list = append(list, n-2, n-1, n, n+1, 2*n, 127*n, 128*n-1)
	}
	r := rand.New(rand.NewSource(1))
	for range 200 {
		list = append(list, r.Intn(top+1)>>r.Intn(61))
	}
	return slices.DeleteFunc(list, func(n int) bool { return n < 0 || n > top })
}

// noUints are numbers that PutUint does not lay.
func noUints() []int {
	return []int{-1, -2, -127, -128, -129, -high, -top, -top - 1, math.MinInt, math.MinInt + 1, top + 1, top + 2, 2*top - 1, 2 * top, 1 << 61, 1<<62 - 1, 1 << 62, 1<<62 + 1, math.MaxInt - 1, math.MaxInt}
}

// ints are numbers that PutInt lays.
func ints() []int {
	list := []int{high, -high}
	for _, n := range uints() {
		if n < high {
			list = append(list, n, -n, -n-1)
		}
	}
	return list
}

// noInts are numbers that PutInt does not lay; twice some of them wraps round.
func noInts() []int {
	return []int{high + 1, high + 2, -high - 1, -high - 2, 2*high - 1, 2 * high, -2 * high, -2*high - 1, top + 1, 1<<62 - 1, 1 << 62, 1<<62 + 1, -1 << 62, -1<<62 - 1, -1<<62 + 1, math.MaxInt - high, math.MaxInt - 1, math.MaxInt, math.MinInt, math.MinInt + 1, math.MinInt + high}
}

// texts are texts that PutText lays: none, around each size of the size, no UTF-8, each octet.
func texts() []string {
	every := make([]byte, 256)
	for i := range every {
		every[i] = byte(i)
	}
	list := []string{"", "a", "ab", "\x00", "\x00\x00", "\x80", "\xff", "\xff\xfe\x80", "\xc3", "\xc3\x28", "\xed\xa0\x80", "é", "a\nb", "\x02ab", string(every)}
	for _, n := range []int{63, 64, 65, 126, 127, 128, 129, 1<<14 - 1, 1 << 14, large - 1, large} {
		list = append(list, strings.Repeat("x", n), strings.Repeat("\xff", n))
	}
	return list
}

var (
	text64 = strings.Repeat("x", 64)
	text65 = strings.Repeat("x", 65)
)

// pairs are made of texts of the form name=value.
func pairs(texts ...string) []api.Pair {
	var l []api.Pair
	for _, s := range texts {
		name, value, _ := strings.Cut(s, "=")
		l = append(l, api.Pair{Name: name, Value: value})
	}
	return l
}

// rising are n labels, a to p and on: a=0, b=1 and so on.
func rising(n int) []api.Pair {
	var l []api.Pair
	for i := range n {
		l = append(l, api.Pair{Name: string(rune('a' + i)), Value: fmt.Sprint(i)})
	}
	return l
}

// full are 16 labels as long as may be.
func full() []api.Pair {
	l := rising(16)
	for i := range l {
		l[i].Name = strings.Repeat(l[i].Name, 64)
		l[i].Value = strings.Repeat("\xff", 64)
	}
	return l
}

func labels() [][]api.Pair {
	return [][]api.Pair{nil, {}, pairs("a=1"), pairs("a="), pairs("a=1", "b="), pairs("A=1", "Z=", "_=2", "a=3", "aa=4"), pairs("a=1", "b=1"), pairs("a=\x00\xff=", "b=é"), pairs(text64 + "=" + text64), rising(2), rising(15), rising(16), full()}
}

// noLabels are pairs that do not count as they stand, of every kind of fault.
func noLabels() [][]api.Pair {
	return [][]api.Pair{
		pairs("b=1", "a=2"), pairs("a=1", "c=3", "b=2"), pairs("a=1", "Z=1"), pairs("aa=1", "a=1"), // not rising
		pairs("a=1", "a=2"), pairs("a=1", "a=1"), pairs("a=1", "b=2", "a=3"), // twice
		pairs("=1"), pairs("="), pairs("1=1"), pairs("a-b=1"), pairs("a=1", "aé=2"), pairs(text65 + "=1"), pairs("\xff=1"), make([]api.Pair, 16), // no name
		pairs("a=" + text65), pairs("a=1", "b="+text65), pairs("a=" + strings.Repeat("x", large)), // no value
		rising(17), rising(26), make([]api.Pair, 17), make([]api.Pair, 300), // too many
	}
}

// octetsOfUint are P5.1's octets, by the library.
func octetsOfUint(n int) string { return string(binary.AppendUvarint(nil, uint64(n))) }

// octetsOfText are P5.2's octets of a text, of any size.
func octetsOfText(s string) string { return octetsOfUint(len(s)) + s }

// octetsOfPairs are P5.3's octets, also of what are no labels, and of any count.
func octetsOfPairs(l []api.Pair) string {
	s := octetsOfUint(len(l))
	for _, p := range l {
		s += octetsOfText(p.Name) + octetsOfText(p.Value)
	}
	return s
}

// P5.1

func TestPutUint(t *testing.T) {
	for n, want := range map[int]string{
		0: "\x00", 1: "\x01", 127: "\x7f", 128: "\x80\x01", 129: "\x81\x01", 255: "\xff\x01", 256: "\x80\x02", 300: "\xac\x02",
		1<<14 - 1: "\xff\x7f", 1 << 14: "\x80\x80\x01", 1<<21 - 1: "\xff\xff\x7f", 1 << 21: "\x80\x80\x80\x01",
		1<<28 - 1: "\xff\xff\xff\x7f", 1 << 28: "\x80\x80\x80\x80\x01", 1 << 35: "\x80\x80\x80\x80\x80\x01", 1 << 42: "\x80\x80\x80\x80\x80\x80\x01",
		1 << 49: "\x80\x80\x80\x80\x80\x80\x80\x01", 1<<56 - 1: "\xff\xff\xff\xff\xff\xff\xff\x7f", 1 << 56: "\x80\x80\x80\x80\x80\x80\x80\x80\x01",
		top - 1: "\xff\xff\xff\xff\xff\xff\xff\xff\x0f", top: "\x80\x80\x80\x80\x80\x80\x80\x80\x10",
	} {
		expectPutUint(t, n, want)
	}
	for _, n := range uints() {
		expectPutUint(t, n, octetsOfUint(n))
	}
	for _, n := range noUints() {
		expectPutUint(t, n, "")
	}
}

func TestGetUint(t *testing.T) {
	for _, n := range uints() {
		expectUint(t, octetsOfUint(n), n, "", api.OK)
		for _, rest := range []string{"z", "\x00", "\x80", "\xff\xff\xff\xff\xff\xff\xff\xff\xff\xff", "\x01\x02", strings.Repeat("r", 300)} {
			expectUint(t, octetsOfUint(n)+rest, n, rest, api.OK)
		}
	}
}

func TestGetUintOfTooFew(t *testing.T) {
	expectUints(t, nil, 0, nil, api.ErrShort)
	expectUints(t, []byte{}, 0, nil, api.ErrShort)
	room := []byte("\x01\x02")
	expectUints(t, room[:0], 0, nil, api.ErrShort)
	expectUints(t, room[2:], 0, nil, api.ErrShort)
	for _, x := range []string{"\x80", "\x81", "\xaa", "\xff"} {
		for n := 1; n <= 8; n++ {
			expectUint(t, strings.Repeat(x, n), 0, "", api.ErrShort)
		}
		for n := 9; n <= 12; n++ {
			expectUint(t, strings.Repeat(x, n), 0, "", api.ErrRange)
		}
		for last := range 128 { // the tenth octet does not matter
			expectUint(t, strings.Repeat(x, 9)+string(rune(last)), 0, "", api.ErrRange)
		}
	}
	for _, n := range uints() {
		s := octetsOfUint(n)
		for cut := range len(s) {
			expectUint(t, s[:cut], 0, "", api.ErrShort)
		}
	}
}

func TestGetUintOfNineOctets(t *testing.T) {
	zeros, ones := strings.Repeat("\x80", 8), strings.Repeat("\xff", 8)
	for _, rest := range []string{"", "z", "\x00", "\x80"} {
		expectUint(t, zeros+"\x01"+rest, 1<<56, rest, api.OK)
		expectUint(t, ones+"\x01"+rest, 1<<57-1, rest, api.OK)
		expectUint(t, zeros+"\x0f"+rest, 15<<56, rest, api.OK)
		expectUint(t, ones+"\x0f"+rest, top-1, rest, api.OK)
		expectUint(t, zeros+"\x10"+rest, top, rest, api.OK)
		expectUint(t, "\x81"+zeros[1:]+"\x10"+rest, 0, "", api.ErrRange)
		expectUint(t, zeros[1:]+"\x81\x10"+rest, 0, "", api.ErrRange)
		expectUint(t, ones+"\x10"+rest, 0, "", api.ErrRange)
		expectUint(t, zeros+"\x11"+rest, 0, "", api.ErrRange)
		expectUint(t, ones+"\x11"+rest, 0, "", api.ErrRange)
		expectUint(t, zeros+"\x20"+rest, 0, "", api.ErrRange)
		expectUint(t, zeros+"\x40"+rest, 0, "", api.ErrRange)
		expectUint(t, zeros+"\x7f"+rest, 0, "", api.ErrRange)
		expectUint(t, ones+"\x7f"+rest, 0, "", api.ErrRange)
	}
	for last := 17; last < 128; last++ {
		expectUint(t, zeros+string(rune(last)), 0, "", api.ErrRange)
	}
}

func TestGetUintOfLastOctetZero(t *testing.T) {
	for _, rest := range []string{"", "z", "\x00", "\x80"} {
		expectUint(t, "\x00"+rest, 0, rest, api.OK)
		for _, x := range []string{"\x80", "\x81", "\xff"} {
			for n := 1; n <= 8; n++ {
				expectUint(t, strings.Repeat(x, n)+"\x00"+rest, 0, "", api.ErrForm)
			}
			expectUint(t, strings.Repeat(x, 9)+"\x00"+rest, 0, "", api.ErrRange)
		}
	}
	expectUint(t, "\x80\x80\x01", 1<<14, "", api.OK) // an octet without bits of its own that is not the last
}

// P5.2

func TestPutInt(t *testing.T) {
	for n, want := range map[int]string{
		0: "\x00", -1: "\x01", 1: "\x02", -2: "\x03", 2: "\x04", 63: "\x7e", -64: "\x7f", 64: "\x80\x01", -65: "\x81\x01", 150: "\xac\x02",
		high - 1: "\xfe\xff\xff\xff\xff\xff\xff\xff\x0f", -high: "\xff\xff\xff\xff\xff\xff\xff\xff\x0f", high: "\x80\x80\x80\x80\x80\x80\x80\x80\x10",
	} {
		expectPutInt(t, n, want)
	}
	for _, n := range ints() {
		expectPutInt(t, n, string(binary.AppendVarint(nil, int64(n))))
	}
	for _, n := range noInts() {
		expectPutInt(t, n, "")
	}
}

func TestGetInt(t *testing.T) {
	for _, n := range ints() {
		s := string(binary.AppendVarint(nil, int64(n)))
		for _, rest := range []string{"", "z", "\x00", "\x80", "\xff\xff"} {
			expectInt(t, s+rest, n, rest, api.OK)
		}
		for cut := range len(s) {
			expectInt(t, s[:cut], 0, "", api.ErrShort)
		}
	}
	expectInt(t, "\x01", -1, "", api.OK)
}

// TestGetIntTellsGetUintsError: also of octets that end with a number that would be below 0.
func TestGetIntTellsGetUintsError(t *testing.T) {
	for _, x := range []string{"\x80", "\x81", "\xff"} {
		for n := range 9 {
			expectInt(t, strings.Repeat(x, n), 0, "", api.ErrShort)
			if n > 0 {
				expectInt(t, strings.Repeat(x, n)+"\x00z", 0, "", api.ErrForm)
			}
		}
		for n := 9; n < 12; n++ {
			expectInt(t, strings.Repeat(x, n), 0, "", api.ErrRange)
			expectInt(t, strings.Repeat(x, n)+"\x00", 0, "", api.ErrRange)
		}
		expectInt(t, strings.Repeat(x, 8)+"\x11", 0, "", api.ErrRange)
		expectInt(t, strings.Repeat(x, 8)+"\x7fz", 0, "", api.ErrRange)
	}
	expectInts(t, nil, 0, nil, api.ErrShort)
	expectInts(t, []byte{}, 0, nil, api.ErrShort)
	expectInt(t, "\x81\x80\x80\x80\x80\x80\x80\x80\x10", 0, "", api.ErrRange)
	expectInt(t, "\x82\x80\x80\x80\x80\x80\x80\x80\x10", 0, "", api.ErrRange)
}

func TestPutText(t *testing.T) {
	for s, want := range map[string]string{
		"": "\x00", "ab": "\x02ab", "\xff": "\x01\xff", "é": "\x02é", // octets are counted, not what they are signs of
		strings.Repeat("x", 127): "\x7f" + strings.Repeat("x", 127), strings.Repeat("x", 128): "\x80\x01" + strings.Repeat("x", 128),
		strings.Repeat("x", large): "\x80\x80\x04" + strings.Repeat("x", large),
	} {
		expectPutText(t, s, want)
	}
	for _, s := range texts() {
		expectPutText(t, s, octetsOfText(s))
	}
	for _, n := range []int{large + 1, large + 2, 2 * large, 1 << 20} {
		expectPutText(t, strings.Repeat("x", n), "")
		expectPutText(t, strings.Repeat("\xff", n), "")
	}
}

func TestGetText(t *testing.T) {
	for _, s := range texts() {
		for _, rest := range []string{"", "z", "\x00", "\x80", strings.Repeat("r", 300)} {
			expectText(t, octetsOfText(s)+rest, s, rest, api.OK)
		}
		whole := []byte(octetsOfText(s))
		for cut := range len(whole) {
			if x, rest, e := codec.GetText(whole[:cut]); x != "" || len(rest) > 0 || e != api.ErrShort {
				t.Fatalf("GetText of %.20q, cut at %d, is %.20q, %.20q, %v", whole, cut, x, rest, e)
			}
		}
	}
}

func TestGetTextErrors(t *testing.T) {
	for _, x := range []string{"\x80", "\x81", "\xff"} {
		for n := range 9 {
			expectText(t, strings.Repeat(x, n), "", "", api.ErrShort)
			if n > 0 {
				expectText(t, strings.Repeat(x, n)+"\x00ab", "", "", api.ErrForm)
			}
		}
		expectText(t, strings.Repeat(x, 9), "", "", api.ErrRange)
		expectText(t, strings.Repeat(x, 9)+"\x00ab", "", "", api.ErrRange)
		expectText(t, strings.Repeat(x, 8)+"\x11ab", "", "", api.ErrRange)
	}
	expectTexts(t, nil, "", nil, api.ErrShort)
	expectTexts(t, []byte{}, "", nil, api.ErrShort)
	// A size that is told and not there: too large is told ahead of too short.
	for size, e := range map[int]api.Errno{1: api.ErrShort, 127: api.ErrShort, 128: api.ErrShort, large - 1: api.ErrShort, large: api.ErrShort, large + 1: api.ErrLarge, 1 << 17: api.ErrLarge, 1 << 32: api.ErrLarge, 1 << 53: api.ErrLarge, top - 1: api.ErrLarge, top: api.ErrLarge} {
		expectText(t, octetsOfUint(size), "", "", e)
		expectText(t, octetsOfUint(size)+strings.Repeat("x", min(size-1, 3*large)), "", "", e)
	}
	for _, n := range []int{large + 1, large + 2, 2 * large} { // and there
		expectText(t, octetsOfText(strings.Repeat("x", n)), "", "", api.ErrLarge)
	}
	expectText(t, "\x02a", "", "", api.ErrShort)
	expectTexts(t, []byte("\x02ab")[:2], "", nil, api.ErrShort) // what lies in the room behind is not there
}

// P5.3

func TestPutLabels(t *testing.T) {
	expectPutLabels(t, nil, "\x00")
	expectPutLabels(t, pairs("a=1"), "\x01\x01a\x011")
	expectPutLabels(t, pairs("a=1", "b="), "\x02\x01a\x011\x01b\x00")
	for _, l := range labels() {
		expectPutLabels(t, l, octetsOfPairs(l))
	}
	for _, l := range noLabels() {
		expectPutLabels(t, l, "\x00")
	}
}

func TestGetLabels(t *testing.T) {
	expectLabels(t, "\x02\x01a\x011\x01b\x00z", pairs("a=1", "b="), "z", api.OK)
	for _, l := range labels() {
		s := octetsOfPairs(l)
		for _, rest := range []string{"", "z", "\x00", "\x80", "\x01a\x011", strings.Repeat("r", 300)} {
			expectLabels(t, s+rest, l, rest, api.OK)
		}
		for cut := range len(s) {
			expectLabels(t, s[:cut], nil, "", api.ErrShort)
		}
	}
}

// TestGetLabelsOfNoLabels: whatever is wrong with pairs, once they are there, is ErrForm.
func TestGetLabelsOfNoLabels(t *testing.T) {
	for _, l := range noLabels() {
		s, e := octetsOfPairs(l), api.ErrForm
		if len(l) > 16 {
			e = api.ErrLarge
		}
		expectLabels(t, s, nil, "", e)
		expectLabels(t, s+"z", nil, "", e)
		if len(l) > 16 {
			continue
		}
		for _, cut := range []int{0, 1, 2, len(s) / 2, len(s) - 2, len(s) - 1} { // too short is told ahead of it
			expectLabels(t, s[:cut], nil, "", api.ErrShort)
		}
	}
}

func TestGetLabelsErrors(t *testing.T) {
	one := "\x01a\x011"
	for s, e := range map[string]api.Errno{
		// the count
		"": api.ErrShort, "\x80": api.ErrShort, "\xff\xff\xff\xff\xff\xff\xff\xff": api.ErrShort,
		"\x80\x00": api.ErrForm, "\x82\x00" + one + one: api.ErrForm,
		"\xff\xff\xff\xff\xff\xff\xff\xff\xff": api.ErrRange, "\x81\x80\x80\x80\x80\x80\x80\x80\x10": api.ErrRange,
		"\x11": api.ErrLarge, "\x11" + strings.Repeat(one, 17): api.ErrLarge, "\x11\x80\x00": api.ErrLarge, octetsOfUint(18): api.ErrLarge, octetsOfUint(128): api.ErrLarge, octetsOfUint(large): api.ErrLarge, octetsOfUint(top): api.ErrLarge,
		"\x10": api.ErrShort,
		// a name, or a value, that is no text: of the first pair, and of the next
		"\x01\x80\x00": api.ErrForm, "\x01\x01a\x80\x00": api.ErrForm, "\x02" + one + "\x80\x00": api.ErrForm, "\x02" + one + "\x01b\x80\x00": api.ErrForm,
		"\x01\x81\x80\x04": api.ErrLarge, "\x01\x01a\x81\x80\x04": api.ErrLarge, "\x02" + one + "\x81\x80\x04": api.ErrLarge, "\x02" + one + "\x01b\x81\x80\x04": api.ErrLarge,
		"\x01" + strings.Repeat("\xff", 9): api.ErrRange, "\x01\x01a" + strings.Repeat("\xff", 9): api.ErrRange, "\x02" + one + strings.Repeat("\xff", 9): api.ErrRange, "\x02" + one + "\x01b" + strings.Repeat("\xff", 9): api.ErrRange,
		"\x01": api.ErrShort, "\x01\x01": api.ErrShort, "\x01\x01a": api.ErrShort, "\x01\x01a\x01": api.ErrShort, "\x02" + one: api.ErrShort, "\x02" + one + "\x01b\x01": api.ErrShort,
		// the error of what stands first
		"\x02\x81\x80\x04\x80\x00": api.ErrLarge, "\x02\x01a\x81\x80\x04\x80\x00": api.ErrLarge, "\x02\x80\x00\x81\x80\x04": api.ErrForm, "\x03" + one + "\x80\x00\x81\x80\x04": api.ErrForm, "\x03" + one + "\x01b\x81\x80\x04\x80\x00": api.ErrLarge,
		// a text's error ahead of pairs that are no labels
		"\x02\x00\x00": api.ErrShort, "\x02\x00\x00\x81\x80\x04": api.ErrLarge, "\x03" + one + one: api.ErrShort, "\x03" + one + one + strings.Repeat("\xff", 9): api.ErrRange, "\x03\x01b\x00\x01a\x00\x81\x80\x04": api.ErrLarge, "\x02\x011\x00\x01a\x05": api.ErrShort,
		// what are no labels
		"\x01\x00\x00": api.ErrForm, "\x02" + one + one: api.ErrForm, "\x02\x01b\x00\x01a\x00": api.ErrForm, "\x01\x011\x00": api.ErrForm, "\x01\x01a\x41" + text65: api.ErrForm, "\x01\x41" + text65 + "\x00": api.ErrForm,
	} {
		expectLabels(t, s, nil, "", e)
	}
	expectLabelLists(t, nil, nil, nil, api.ErrShort)
	expectLabelLists(t, []byte{}, nil, nil, api.ErrShort)
}

// TestPutsOfNoOctets: nil stands first as well as anything, and what is laid behind it is the same.
func TestPutsOfNoOctets(t *testing.T) {
	for _, b := range [][]byte{nil, {}} {
		for call, x := range map[string]struct {
			got  []byte
			want string
		}{
			"PutUint": {codec.PutUint(b, 300), "\xac\x02"}, "PutUint alone": {codec.PutUint(b, -1), ""},
			"PutInt": {codec.PutInt(b, -1), "\x01"}, "PutInt alone": {codec.PutInt(b, high+1), ""},
			"PutText": {codec.PutText(b, "ab"), "\x02ab"}, "PutText alone": {codec.PutText(b, strings.Repeat("x", large+1)), ""},
			"PutLabels": {codec.PutLabels(b, pairs("a=1")), "\x01\x01a\x011"}, "PutLabels of none": {codec.PutLabels(b, nil), "\x00"},
		} {
			if string(x.got) != x.want {
				t.Errorf("%s behind no octets is %q", call, x.got)
			}
		}
	}
}

// TestPutsLeaveEarlierAnswers: each call with each other, for the same b with room behind it.
func TestPutsLeaveEarlierAnswers(t *testing.T) {
	calls := []func(b []byte) []byte{
		func(b []byte) []byte { return codec.PutUint(b, 1) }, func(b []byte) []byte { return codec.PutUint(b, top) }, func(b []byte) []byte { return codec.PutUint(b, -1) },
		func(b []byte) []byte { return codec.PutInt(b, 1) }, func(b []byte) []byte { return codec.PutInt(b, -high) }, func(b []byte) []byte { return codec.PutInt(b, math.MinInt) },
		func(b []byte) []byte { return codec.PutText(b, "ab") }, func(b []byte) []byte { return codec.PutText(b, "") }, func(b []byte) []byte { return codec.PutText(b, strings.Repeat("y", large+1)) },
		func(b []byte) []byte { return codec.PutLabels(b, rising(3)) }, func(b []byte) []byte { return codec.PutLabels(b, nil) }, func(b []byte) []byte { return codec.PutLabels(b, noLabels()[0]) },
	}
	for _, n := range []int{0, 1, 7, 100} {
		b := make([]byte, n, n+1000)
		for i, first := range calls {
			one := first(b)
			was := string(one)
			for k, next := range calls {
				two := next(one[:n:cap(one)])
				if string(one) != was || !bytes.Equal(two, next(b)) {
					t.Fatalf("call %d behind %d octets is %q, behind call %d's answer, which is now %q and was %q", k, n, two, i, one, was)
				}
				scribble(two)
				if string(one) != was || !bytes.Equal(b[:cap(b)], make([]byte, n+1000)) {
					t.Fatalf("the answers of calls %d and %d behind %d octets share memory", i, k, n)
				}
			}
		}
	}
}

// P5.4

// TestWhatIsPutIsGot puts many things of all kinds one behind the other, and gets them back, the rest with each.
func TestWhatIsPutIsGot(t *testing.T) {
	r := rand.New(rand.NewSource(2))
	for range 300 {
		var b []byte
		var gets []func()
		for range r.Intn(12) {
			gets = append(gets, putSome(t, r, &b))
		}
		for _, get := range gets {
			get()
		}
		if len(b) > 0 {
			t.Fatalf("%q is left", b)
		}
	}
}

// putSome lays one thing behind *b, and gives what gets it from there again.
func putSome(t *testing.T, r *rand.Rand, b *[]byte) func() {
	switch r.Intn(4) {
	case 0:
		n := pick(r, uints())
		*b = codec.PutUint(*b, n)
		return func() { expectNext(t, b, codec.GetUint, n) }
	case 1:
		n := pick(r, ints())
		*b = codec.PutInt(*b, n)
		return func() { expectNext(t, b, codec.GetInt, n) }
	case 2:
		s := pick(r, texts())
		*b = codec.PutText(*b, s)
		return func() { expectNext(t, b, codec.GetText, s) }
	}
	l := pick(r, labels())
	*b = codec.PutLabels(*b, l)
	return func() {
		got, rest, e := codec.GetLabels(*b)
		if e != api.OK || !slices.Equal(got, l) {
			t.Fatalf("put %q, got %q, %v", l, got, e)
		}
		*b = rest
	}
}

func pick[T any](r *rand.Rand, list []T) T { return list[r.Intn(len(list))] }

func expectNext[T comparable](t *testing.T, b *[]byte, get func([]byte) (T, []byte, api.Errno), want T) {
	t.Helper()
	got, rest, e := get(*b)
	if e != api.OK || got != want {
		t.Fatalf("put %.80q, got %.80q, %v", fmt.Sprint(want), fmt.Sprint(got), e)
	}
	*b = rest
}

// TestFewOctetsAreGotAsPut: all texts of up to two octets, and all of up to six of those octets on which something hangs.
func TestFewOctetsAreGotAsPut(t *testing.T) {
	for x := range 256 {
		expectAsModel(t, []byte{byte(x)})
		for y := range 256 {
			expectAsModel(t, []byte{byte(x), byte(y)})
		}
	}
	alphabet := []byte{0, 1, 2, 'a', 'b', 0x80, 0x81}
	list := [][]byte{{}}
	for from := 0; len(list[from]) < 6; from++ {
		expectAsModel(t, list[from])
		for _, x := range alphabet {
			list = append(list, append(slices.Clone(list[from]), x))
		}
	}
	for _, b := range list {
		expectAsModel(t, b)
	}
}

// TestChangedOctetsAreGotAsPut: what was put, with an octet changed, left out or laid between.
func TestChangedOctetsAreGotAsPut(t *testing.T) {
	for _, l := range [][]api.Pair{nil, pairs("a=1"), pairs("a=1", "b="), rising(3), rising(16)} {
		b := []byte(octetsOfPairs(l))
		for at := range b {
			expectAsModel(t, slices.Delete(slices.Clone(b), at, at+1))
			for x := range 256 {
				changed := slices.Clone(b)
				changed[at] = byte(x)
				expectAsModel(t, changed)
				if x%16 < 2 {
					expectAsModel(t, slices.Insert(slices.Clone(b), at, byte(x)))
				}
			}
		}
	}
}

// TestNothingIsKept: what is asked between two calls does not matter.
func TestNothingIsKept(t *testing.T) {
	b := []byte(octetsOfPairs(rising(16)))
	for _, between := range []string{"", "\x80", "\x02\x01b\x00\x01a\x00", "\x01\x01z\x019"} {
		codec.GetLabels([]byte(between))
		codec.PutLabels([]byte(between), full())
		expectLabels(t, string(b), rising(16), "", api.OK)
		expectPutLabels(t, rising(16), string(b))
	}
}

// P1: no arguments make a call panic, or go on for ever; and all hold against a model.
func FuzzCalls(f *testing.F) {
	f.Add([]byte(nil), 0, "")
	f.Add([]byte("\xac\x02"), 300, "ab")
	f.Add([]byte("\x02\x01a\x011\x01b\x00z"), -1, "a=1,b=")
	f.Add([]byte("\xff\xff\xff\xff\xff\xff\xff\xff\x7f"), math.MinInt, "b=1,a=2")
	f.Add([]byte("\x80\x80\x80\x80\x80\x80\x80\x80\x10"), top, "1=,=,\xff=\xff")
	f.Fuzz(func(t *testing.T, b []byte, n int, s string) {
		expectAsModel(t, b)
		expectPutUint(t, n, orNone(0 <= n && n <= top, octetsOfUint(n)))
		expectPutInt(t, n, orNone(-high <= n && n <= high, string(binary.AppendVarint(nil, int64(n)))))
		expectPutText(t, s, orNone(len(s) <= large, octetsOfText(s)))
		l := pairs(strings.Split(s, ",")...)
		if !modelSane(l) {
			expectPutLabels(t, l, "\x00")
		} else {
			expectPutLabels(t, l, octetsOfPairs(l))
		}
	})
}

func orNone(is bool, s string) string {
	if !is {
		return ""
	}
	return s
}

func expectPutUint(t *testing.T, n int, want string) {
	t.Helper()
	expectPut(t, func(b []byte) []byte { return codec.PutUint(b, n) }, want, "PutUint of %v", n)
}

func expectPutInt(t *testing.T, n int, want string) {
	t.Helper()
	expectPut(t, func(b []byte) []byte { return codec.PutInt(b, n) }, want, "PutInt of %v", n)
}

func expectPutText(t *testing.T, s string, want string) {
	t.Helper()
	expectPut(t, func(b []byte) []byte { return codec.PutText(b, s) }, want, "PutText of %.80q", s)
}

func expectPutLabels(t *testing.T, l []api.Pair, want string) {
	t.Helper()
	l = append(slices.Clone(l), pairs("behind=1")...)
	was := slices.Clone(l)
	expectPut(t, func(b []byte) []byte { return codec.PutLabels(b, l[:len(l)-1]) }, want, "PutLabels of %.200q", l[:len(l)-1])
	if !slices.Equal(l, was) {
		t.Errorf("%.200q, which was handed in, was changed to %.200q", was, l)
	}
}

// expectPut asks put behind some octets, with room behind them and without; that they and the room stay as they are, and that each answer is memory of its own.
func expectPut(t *testing.T, put func([]byte) []byte, want string, call string, arg any) {
	t.Helper()
	for _, x := range []struct {
		first string
		room  int
	}{{"", 0}, {"", 8}, {"a", 0}, {"\x80", 3}, {"first", len(want)}, {"first", 2*len(want) + 1}} {
		whole := []byte(x.first + strings.Repeat("#", x.room))
		was := string(whole)
		b := whole[:len(x.first)]
		one, two := put(b), put(b)
		if string(one) != x.first+want || string(two) != x.first+want {
			t.Errorf("%s behind %q is %.200q, and then %.200q, not %.200q", fmt.Sprintf(call, arg), x.first, one, two, x.first+want)
		}
		scribble(two)
		if string(whole) != was || string(one) != x.first+want {
			t.Errorf("%s behind %q: an answer's memory is b's, or another answer's", fmt.Sprintf(call, arg), x.first)
		}
	}
}

// scribble changes all octets of b, and of the room behind it.
func scribble(b []byte) {
	b = b[:cap(b)]
	for i := range b {
		b[i] ^= 0x55
	}
}

func expectUint(t *testing.T, s string, n int, rest string, e api.Errno) {
	t.Helper()
	expectUints(t, []byte(s), n, []byte(rest), e)
}

func expectUints(t *testing.T, b []byte, n int, rest []byte, e api.Errno) {
	t.Helper()
	expectGet(t, "GetUint", codec.GetUint, isSame, b, n, rest, e)
}

func expectInt(t *testing.T, s string, n int, rest string, e api.Errno) {
	t.Helper()
	expectInts(t, []byte(s), n, []byte(rest), e)
}

func expectInts(t *testing.T, b []byte, n int, rest []byte, e api.Errno) {
	t.Helper()
	expectGet(t, "GetInt", codec.GetInt, isSame, b, n, rest, e)
}

func expectText(t *testing.T, s string, x string, rest string, e api.Errno) {
	t.Helper()
	expectTexts(t, []byte(s), x, []byte(rest), e)
}

func expectTexts(t *testing.T, b []byte, x string, rest []byte, e api.Errno) {
	t.Helper()
	expectGet(t, "GetText", codec.GetText, isSame, b, x, rest, e)
}

func expectLabels(t *testing.T, s string, l []api.Pair, rest string, e api.Errno) {
	t.Helper()
	expectLabelLists(t, []byte(s), l, []byte(rest), e)
}

func expectLabelLists(t *testing.T, b []byte, l []api.Pair, rest []byte, e api.Errno) {
	t.Helper()
	expectGet(t, "GetLabels", codec.GetLabels, slices.Equal, b, l, rest, e)
}

func isSame[T comparable](x, y T) bool { return x == y }

// expectGet asks get of b; that with an error it tells nothing else, and that what is handed in stays as it is.
func expectGet[T any](t *testing.T, call string, get func([]byte) (T, []byte, api.Errno), same func(T, T) bool, b []byte, want T, rest []byte, e api.Errno) {
	t.Helper()
	was := slices.Clone(b)
	got, gotRest, gotE := get(b)
	if gotE != e || !same(got, want) || !bytes.Equal(gotRest, rest) {
		t.Errorf("%s of %.80q is %.80q, %.80q, %v, not %.80q, %.80q, %v", call, b, fmt.Sprint(got), gotRest, gotE, fmt.Sprint(want), rest, e)
	}
	if !bytes.Equal(b, was) {
		t.Errorf("%.80q, which was handed in to %s, was changed to %.80q", was, call, b)
	}
}

// modelUint is P5.1's GetUint, by the library.
func modelUint(b []byte) (int, []byte, api.Errno) {
	end := slices.IndexFunc(b, func(x byte) bool { return x < 128 })
	if end < 0 && len(b) < 9 {
		return 0, nil, api.ErrShort
	}
	if end < 0 || end >= 9 {
		return 0, nil, api.ErrRange
	}
	n, _ := binary.Uvarint(b)
	if n > top {
		return 0, nil, api.ErrRange
	}
	if b[end] == 0 && end > 0 {
		return 0, nil, api.ErrForm
	}
	return int(n), b[end+1:], api.OK
}

func modelText(b []byte) (string, []byte, api.Errno) {
	n, rest, e := modelUint(b)
	switch {
	case e != api.OK:
		return "", nil, e
	case n > large:
		return "", nil, api.ErrLarge
	case n > len(rest):
		return "", nil, api.ErrShort
	}
	return string(rest[:n]), rest[n:], api.OK
}

func modelLabels(b []byte) ([]api.Pair, []byte, api.Errno) {
	n, b, e := modelUint(b)
	if e != api.OK {
		return nil, nil, e
	}
	if n > 16 {
		return nil, nil, api.ErrLarge
	}
	var flat []string
	for range 2 * n {
		s, rest, e := modelText(b)
		if e != api.OK {
			return nil, nil, e
		}
		flat, b = append(flat, s), rest
	}
	var l []api.Pair
	for s := range slices.Chunk(flat, 2) {
		l = append(l, api.Pair{Name: s[0], Value: s[1]})
	}
	if !modelSane(l) {
		return nil, nil, api.ErrForm
	}
	return l, b, api.OK
}

// modelSane is layer 3's Sane.
func modelSane(l []api.Pair) bool {
	const first = "abcdefghijklmnopqrstuvwxyzABCDEFGHIJKLMNOPQRSTUVWXYZ_"
	for i, p := range l {
		if p.Name == "" || len(p.Name) > 64 || len(p.Value) > 64 || strings.Trim(p.Name, first+"0123456789") != "" || strings.Trim(p.Name[:1], first) != "" || strings.ContainsFunc(p.Name, func(c rune) bool { return !strings.ContainsRune(first+"0123456789", c) }) {
			return false
		}
		if i > 0 && l[i-1].Name >= p.Name {
			return false
		}
	}
	return len(l) <= 16
}

// expectAsModel asks all calls that get of b; and that what is got is put again as the same octets.
func expectAsModel(t *testing.T, b []byte) {
	t.Helper()
	n, rest, e := modelUint(b)
	expectUints(t, b, n, rest, e)
	if got, rest, e := codec.GetUint(b); e == api.OK {
		expectAgain(t, b, codec.PutUint(nil, got), rest)
	}
	signed := n / 2
	if n%2 == 1 {
		signed = -(n + 1) / 2
	}
	expectInts(t, b, signed, rest, e)
	if got, rest, e := codec.GetInt(b); e == api.OK {
		expectAgain(t, b, codec.PutInt(nil, got), rest)
	}
	s, rest, e := modelText(b)
	expectTexts(t, b, s, rest, e)
	if got, rest, e := codec.GetText(b); e == api.OK {
		expectAgain(t, b, codec.PutText(nil, got), rest)
	}
	l, rest, e := modelLabels(b)
	expectLabelLists(t, b, l, rest, e)
	if got, rest, e := codec.GetLabels(b); e == api.OK {
		expectAgain(t, b, codec.PutLabels(nil, got), rest)
	}
}

func expectAgain(t *testing.T, b, put, rest []byte) {
	t.Helper()
	if got := slices.Concat(put, rest); !bytes.Equal(got, b) {
		t.Errorf("what is got of %.80q is put as %.80q, with the rest %.80q", b, put, rest)
	}
}
