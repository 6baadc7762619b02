package frame_test

import (
	"bytes"
	"encoding/binary"
	"hash/crc32"
	"math"
	"math/rand"
	"slices"
	"strings"
	"testing"

	"watchtower/api"
	"watchtower/codec"
	"watchtower/frame"
)

const (
	top   = 1 << 60 // the greatest number that codec.GetUint gets
	large = 1 << 16 // octets of the longest record
)

// a is the record of the text "a".
const a = "\x01a\x43\xbe\xb7\xe8"

// octetsOfUint are P5.1's octets, by the library.
func octetsOfUint(n int) string { return string(binary.AppendUvarint(nil, uint64(n))) }

// octetsOfSum are the four octets of a sum, by the library.
func octetsOfSum(p string) string {
	return string(binary.LittleEndian.AppendUint32(nil, crc32.ChecksumIEEE([]byte(p))))
}

// octetsOf are P6.1's octets of a record, of any size.
func octetsOf(p string) string { return octetsOfUint(len(p)) + p + octetsOfSum(p) }

// short are texts to lay, of few octets.
func short() []string {
	return []string{"", "\x00", "a", "\x80", "\xff", "ab", "\x00\x00", "\x00\x00\x00\x00", "\xff\xff\xff\xff", "123456789", "\x00\x00\x00\x00\x00", a, octetsOf(""), octetsOf(a), "é\n\xc3", strings.Repeat("z", 40)}
}

// texts are texts to lay, of up to as many octets as may be.
func texts() []string {
	list := append(short(), string(everyOctet()))
	for _, n := range []int{63, 64, 126, 127, 128, 129, 1<<14 - 1, 1 << 14, 1<<14 + 1, large - 1, large} {
		list = append(list, strings.Repeat("\x00", n), strings.Repeat("\xff", n), string(randomOctets(rand.New(rand.NewSource(int64(n))), n)))
	}
	return list
}

// tooLarge are counts of octets that no record has.
func tooLarge() []int {
	return []int{large + 1, large + 2, large + 127, 2*large - 1, 2 * large, 1 << 20}
}

func everyOctet() []byte {
	b := make([]byte, 256)
	for i := range b {
		b[i] = byte(i)
	}
	return b
}

func randomOctets(r *rand.Rand, n int) []byte {
	b := make([]byte, n)
	r.Read(b)
	return b
}

// behinds are octets that may stand behind a record, and are none of it.
func behinds() []string {
	return []string{"z", "\x00", "\x80", "\x80\x00", "\x00\x00\x00\x00\x01", "\xff\xff\xff\xff\xff\xff\xff\xff\xff\xff", octetsOf(""), a, a[:3], strings.Repeat("r", 300)}
}

// P6.1

func TestPut(t *testing.T) {
	for p, want := range map[string]string{
		"":          "\x00\x00\x00\x00\x00",
		"a":         a,
		"123456789": "\x09123456789\x26\x39\xf4\xcb",
		"\x00":      "\x01\x00\x8d\xef\x02\xd2",
		"\xff":      "\x01\xff\x00\x00\x00\xff", // the lowest octet of the sum first

		strings.Repeat("\x00", 4): "\x04\x00\x00\x00\x00\x1c\xdf\x44\x21",
		strings.Repeat("\xff", 4): "\x04\xff\xff\xff\xff\xff\xff\xff\xff",
	} {
		expectPut(t, p, want)
	}
	for _, p := range texts() {
		expectPut(t, p, octetsOf(p))
	}
}

// TestPutOfSizes: as many octets are laid as the size has, those of p, and four.
func TestPutOfSizes(t *testing.T) {
	for n, all := range map[int]int{0: 5, 1: 6, 2: 7, 127: 132, 128: 134, 1<<14 - 1: 1<<14 + 5, 1 << 14: 1<<14 + 7, large - 1: large + 6, large: large + 7} {
		if got := len(frame.Put(nil, make([]byte, n))); got != all {
			t.Errorf("%d octets are put as %d, not %d", n, got, all)
		}
	}
}

func TestPutOfTooMany(t *testing.T) {
	for _, n := range tooLarge() {
		expectPut(t, strings.Repeat("\x00", n), "")
		expectPut(t, strings.Repeat("\xff", n), "")
	}
}

// TestPutOfNone: nil is as good as no octets, ahead and as what is laid.
func TestPutOfNone(t *testing.T) {
	for _, none := range [][]byte{nil, {}} {
		for _, p := range [][]byte{nil, {}} {
			for _, b := range [][]byte{none, []byte("z")} {
				if got := frame.Put(b, p); string(got) != string(b)+"\x00\x00\x00\x00\x00" {
					t.Errorf("no octets behind %q are put as %q", b, got)
				}
			}
		}
		if got := frame.Put(none, []byte("a")); string(got) != a {
			t.Errorf("a behind no octets is put as %q", got)
		}
		if got := frame.Put(none, make([]byte, large+1)); len(got) != 0 {
			t.Errorf("too many octets behind none are put as %.20q", got)
		}
	}
}

// TestPutBehindLongOctets: what stands first has no bound.
func TestPutBehindLongOctets(t *testing.T) {
	b := randomOctets(rand.New(rand.NewSource(1)), 3*large)
	for _, p := range []string{"", "a", strings.Repeat("x", large)} {
		if got := frame.Put(b, []byte(p)); string(got) != string(b)+octetsOf(p) {
			t.Errorf("%d octets behind %d are put as %d", len(p), len(b), len(got))
		}
	}
	if got := frame.Put(b, make([]byte, large+1)); !bytes.Equal(got, b) {
		t.Errorf("too many octets behind %d are put as %d", len(b), len(got))
	}
}

// TestPutOfPiecesOfB: what is laid may lie within b, and in the room behind it.
func TestPutOfPiecesOfB(t *testing.T) {
	ground := everyOctet()
	for _, x := range [][3]int{{0, 100, 0}, {0, 100, 100}, {0, 10, 200}, {50, 0, 256}, {99, 0, 100}, {100, 0, 256}, {100, 100, 256}, {104, 100, 120}} {
		from, first, to := x[0], x[1], max(x[0], x[2])
		b, p := ground[:first], ground[from:to]
		want := string(b) + octetsOf(string(p))
		if got := frame.Put(b, p); string(got) != want {
			t.Errorf("octets %d to %d behind the first %d are put as %q, not %q", from, to, first, got, want)
		}
		if !bytes.Equal(ground, everyOctet()) {
			t.Fatalf("octets %d to %d, put behind the first %d, were changed, or those about them", from, to, first)
		}
	}
}

// TestPutLeavesEarlierAnswers: for the same b with room behind it, also where the answer is b alone.
func TestPutLeavesEarlierAnswers(t *testing.T) {
	list := []string{"", "a", strings.Repeat("y", 200), strings.Repeat("z", large), strings.Repeat("\xff", large+1)}
	for _, n := range []int{0, 1, 7, 100} {
		b := make([]byte, n, n+2*large)
		for _, first := range list {
			one := frame.Put(b, []byte(first))
			was := string(one)
			for _, next := range list {
				two := frame.Put(one[:n:cap(one)], []byte(next))
				if string(one) != was || !bytes.Equal(two, frame.Put(b, []byte(next))) {
					t.Fatalf("%.20q behind %d octets of the answer %.40q changed it, or is put otherwise", next, n, was)
				}
				scribble(two)
				if string(one) != was || slices.Max(append(b[:cap(b)], 0)) != 0 {
					t.Fatalf("the answers of %.20q and %.20q behind %d octets share memory", first, next, n)
				}
			}
		}
	}
}

// P6.2

func TestGet(t *testing.T) {
	expectGet(t, "\x09123456789\x26\x39\xf4\xcbx", "123456789", "x", api.OK)
	expectGet(t, a, "a", "", api.OK)
	for _, p := range texts() {
		expectGet(t, octetsOf(p), p, "", api.OK)
		for _, rest := range behinds() {
			expectGet(t, octetsOf(p)+rest, p, rest, api.OK)
		}
	}
}

func TestGetOfNone(t *testing.T) {
	room := []byte("\x00\x00\x00\x00\x00\x00\x00\x00\x00\x00")
	for _, b := range [][]byte{nil, {}, room[:0], room[len(room):]} {
		if p, rest, e := frame.Get(b); len(p) > 0 || len(rest) > 0 || e != api.ErrShort {
			t.Errorf("Get of no octets is %q, %q, %v", p, rest, e)
		}
	}
}

// wrongSizes are octets of which codec.GetUint tells an error, and which.
func wrongSizes() map[string]api.Errno {
	list := map[string]api.Errno{"": api.ErrShort, "\x81\x80\x80\x80\x80\x80\x80\x80\x10": api.ErrRange, "\x80\x80\x80\x80\x80\x80\x80\x80\x11": api.ErrRange, "\xff\xff\xff\xff\xff\xff\xff\xff\x7f": api.ErrRange}
	for _, x := range []string{"\x80", "\x81", "\xff"} {
		for n := 1; n <= 8; n++ {
			list[strings.Repeat(x, n)] = api.ErrShort
			list[strings.Repeat(x, n)+"\x00"] = api.ErrForm
		}
		list[strings.Repeat(x, 9)] = api.ErrRange
		list[strings.Repeat(x, 9)+"\x00"] = api.ErrRange
	}
	return list
}

func TestGetTellsGetUintsError(t *testing.T) {
	for s, e := range wrongSizes() {
		if _, _, is := codec.GetUint([]byte(s)); is != e {
			t.Errorf("codec.GetUint of %q is %v, not %v", s, is, e)
		}
		expectGet(t, s, "", "", e)
		if e == api.ErrShort {
			continue // with octets behind, the size goes on
		}
		for _, rest := range append(behinds(), octetsOfSum(""), "a"+octetsOfSum("a"), strings.Repeat("x", 2*large)) {
			expectGet(t, s+rest, "", "", e)
		}
	}
	expectGet(t, "\x80\x00\x00\x00\x00\x00", "", "", api.ErrForm) // a size that is not as short as may be, with all behind it that it asks for
	expectGet(t, "\x81\x00a"+octetsOfSum("a"), "", "", api.ErrForm)
}

// TestGetOfLargeSizes: there or not, too large is told ahead of too short and of a wrong sum.
func TestGetOfLargeSizes(t *testing.T) {
	for _, n := range append(tooLarge(), 1<<32, 1<<53, top-1, top) {
		size := octetsOfUint(n)
		for _, rest := range append(behinds(), "", "\x00\x00\x00\x00", strings.Repeat("x", large), strings.Repeat("\xff", large+4)) {
			expectGet(t, size+rest, "", "", api.ErrLarge)
		}
	}
	for _, n := range tooLarge() {
		s := strings.Repeat("x", n)
		expectGet(t, octetsOf(s), "", "", api.ErrLarge)
		expectGet(t, octetsOf(s)+"z", "", "", api.ErrLarge)
		expectGet(t, octetsOfUint(n)+s+"\x00\x00\x00\x00", "", "", api.ErrLarge)
		expectGet(t, octetsOf(s)[:n], "", "", api.ErrLarge)
	}
	expectGet(t, octetsOfUint(large), "", "", api.ErrShort)
	expectGet(t, octetsOfUint(large)+strings.Repeat("x", large)+"\x00\x00\x00\x00", "", "", api.ErrSum)
}

// TestGetOfCutRecords: at each place, with what is missing in the room behind, which is not there.
func TestGetOfCutRecords(t *testing.T) {
	for _, p := range append(short(), strings.Repeat("x", 128), strings.Repeat("x", 300)) {
		whole := []byte(octetsOf(p))
		for cut := range len(whole) {
			expectGets(t, whole[:cut], "", "", api.ErrShort)
		}
		wrong := slices.Clone(whole)
		wrong[len(wrong)-4] ^= 1
		for cut := range len(wrong) { // too short is told ahead of a wrong sum
			expectGets(t, wrong[:cut], "", "", api.ErrShort)
		}
		expectGets(t, wrong, "", "", api.ErrSum)
	}
	whole := []byte(octetsOf(strings.Repeat("x", large)))
	for _, cut := range []int{0, 1, 2, 3, 4, large - 1, large, large + 1, large + 2, large + 3, large + 4, large + 5, large + 6} {
		expectGets(t, whole[:cut], "", "", api.ErrShort)
	}
}

func TestGetOfChangedSums(t *testing.T) {
	for _, p := range texts() {
		whole := []byte(octetsOf(p))
		for back := 1; back <= 4; back++ {
			at := len(whole) - back
			for _, x := range []byte{1, 0x10, 0x80, 0xff} {
				whole[at] ^= x
				expectGets(t, whole, "", "", api.ErrSum)
				expectGets(t, append(slices.Clone(whole), "z"...), "", "", api.ErrSum)
				whole[at] ^= x
			}
		}
		slices.Reverse(whole[len(whole)-4:]) // the highest octet first
		if sum := octetsOfSum(p); sum[0] != sum[3] || sum[1] != sum[2] {
			expectGets(t, whole, "", "", api.ErrSum)
		}
	}
	all := []byte(octetsOf("abc"))
	for x := range 256 { // every other octet
		for back := 1; back <= 4; back++ {
			other := slices.Clone(all)
			other[len(other)-back] = byte(x)
			if !bytes.Equal(other, all) {
				expectGets(t, other, "", "", api.ErrSum)
			}
		}
	}
}

// TestGetOfChangedBits: of the octets and of their sum each single bit tells; what becomes of a size is as its error.
func TestGetOfChangedBits(t *testing.T) {
	for _, p := range append(short(), strings.Repeat("x", 127), strings.Repeat("x", 128), strings.Repeat("x", 1000)) {
		whole := []byte(octetsOf(p))
		size := len(octetsOfUint(len(p)))
		for at := range whole {
			for bit := range 8 {
				whole[at] ^= 1 << bit
				if at >= size {
					expectGets(t, whole, "", "", api.ErrSum)
				} else {
					expectAsModel(t, whole)
				}
				whole[at] ^= 1 << bit
			}
		}
	}
}

// P6.3

func TestAll(t *testing.T) {
	expectAll(t, "", nil, 0, api.OK)
	expectAll(t, a, []string{"a"}, 6, api.OK)
	expectAll(t, octetsOf(""), []string{""}, 5, api.OK)
	expectAll(t, octetsOf("")+a+octetsOf(""), []string{"", "a", ""}, 16, api.OK)
	for _, list := range [][]string{short(), texts(), make([]string, 300), {"a", "a", "a"}, {strings.Repeat("x", large), "", strings.Repeat("x", large)}} {
		for n := range min(len(list), 20) + 1 {
			expectAll(t, laid(list[:n]), list[:n], len(laid(list[:n])), api.OK)
		}
		expectAll(t, laid(list), list, len(laid(list)), api.OK)
	}
}

func TestAllOfNone(t *testing.T) {
	room := []byte(a)
	for _, b := range [][]byte{nil, {}, room[:0], room[len(room):]} {
		if list, n, e := frame.All(b); len(list) > 0 || n != 0 || e != api.OK {
			t.Errorf("All of no octets is %q, %d, %v", list, n, e)
		}
	}
}

// TestAllOfWhatIsPut: records laid by Put one behind the other.
func TestAllOfWhatIsPut(t *testing.T) {
	var b []byte
	for n, p := range texts() {
		b = frame.Put(b, []byte(p))
		expectAlls(t, b, texts()[:n+1], len(b), api.OK)
	}
	whole := len(b)
	b = frame.Put(b, make([]byte, large+1)) // lays nothing
	expectAlls(t, b, texts(), whole, api.OK)
}

// TestAllTellsTheErrorBehind: behind none, one and many records.
func TestAllTellsTheErrorBehind(t *testing.T) {
	wrong := wrongSizes()
	delete(wrong, "") // nothing is left, so nothing is wrong
	for _, n := range append(tooLarge(), top) {
		wrong[octetsOfUint(n)] = api.ErrLarge
		wrong[octetsOfUint(n)+a] = api.ErrLarge
	}
	for _, cut := range []string{"\x00", "\x00\x00\x00\x00", "\x01", "\x01a", a[:5], "\x05" + a, "\x7f" + a + a} {
		wrong[cut] = api.ErrShort
	}
	for _, sum := range []string{"\x00\x00\x00\x00\x01", "\x00\x01\x00\x00\x00", "\x01b" + a[2:], "\x01xxxxx", "\x01a\xe8\xb7\xbe\x43"} {
		wrong[sum], wrong[sum+a], wrong[sum+"\x80\x00"] = api.ErrSum, api.ErrSum, api.ErrSum
	}
	for s, e := range wrong {
		for _, list := range [][]string{nil, {""}, {"a"}, {"", "", ""}, short()} {
			expectAll(t, laid(list)+s, list, len(laid(list)), e)
		}
	}
}

// TestAllEndsAtTheFirstError: what stands behind it is not told, be it whole or wrong otherwise.
func TestAllEndsAtTheFirstError(t *testing.T) {
	right, sum := octetsOf("right"), "\x05right\x00\x00\x00\x00"
	expectAll(t, right+sum+right, []string{"right"}, len(right), api.ErrSum)
	expectAll(t, sum+right, nil, 0, api.ErrSum)
	expectAll(t, right+right+sum+right+right, []string{"right", "right"}, 2*len(right), api.ErrSum)
	expectAll(t, right+sum+"\x80\x00", []string{"right"}, len(right), api.ErrSum)
	expectAll(t, right+"\x80\x00"+sum, []string{"right"}, len(right), api.ErrForm)
	expectAll(t, right+octetsOfUint(large+1)+sum, []string{"right"}, len(right), api.ErrLarge)
	expectAll(t, right+octetsOfUint(top)+right, []string{"right"}, len(right), api.ErrLarge)
	expectAll(t, right+strings.Repeat("\xff", 9)+right, []string{"right"}, len(right), api.ErrRange)
	expectAll(t, right+"\x7f"+right+sum, []string{"right"}, len(right), api.ErrShort)
	expectAll(t, right+right[:len(right)-1]+right, []string{"right"}, len(right), api.ErrSum) // what is missing is taken from the next one
}

// TestAllOfManyRecords ends, and tells them all.
func TestAllOfManyRecords(t *testing.T) {
	const n = 20000
	list, size, e := frame.All(bytes.Repeat([]byte(a), n))
	if len(list) != n || size != n*len(a) || e != api.OK || slices.ContainsFunc(list, func(p []byte) bool { return string(p) != "a" }) {
		t.Errorf("of %d records %d are told, with %d octets, %v", n, len(list), size, e)
	}
}

// TestAnswersHaveNoRoom: who appends to what stands in a record changes neither its sum nor the next record.
func TestAnswersHaveNoRoom(t *testing.T) {
	b := []byte(laid(short()))
	was := string(b)
	list, _, _ := frame.All(b)
	for i, p := range list {
		list[i] = append(p, "behind"...)
	}
	p, _, _ := frame.Get(b)
	_ = append(p, "behind"...)
	for i, p := range short() {
		if string(list[i]) != p+"behind" {
			t.Errorf("%q, with more behind, has become %q", p, list[i])
		}
	}
	if string(b) != was {
		t.Errorf("%q has become %q", was, b)
	}
}

// P6.4

// TestAllOfCutRecords: cut at each place, and those that are whole are told.
func TestAllOfCutRecords(t *testing.T) {
	for _, list := range [][]string{nil, {""}, {"a"}, {"a", "", "bcd"}, {"", "", ""}, {strings.Repeat("x", 128), a, strings.Repeat("\x00", 127)}, short()} {
		b := []byte(laid(list))
		for cut := range len(b) + 1 {
			n := 0
			for n < len(list) && len(laid(list[:n+1])) <= cut {
				n++
			}
			whole, e := len(laid(list[:n])), api.ErrShort
			if whole == cut {
				e = api.OK
			}
			expectAlls(t, b[:cut], list[:n], whole, e)
		}
	}
}

// change changes the bits of pattern in b, from a bit on. Bits lie one behind the other as layer 4 loses them: an octet's lowest first, and behind its highest the next octet's lowest.
func change(b []byte, from int, pattern uint32) {
	for i := range 32 {
		if pattern>>i%2 == 1 {
			b[(from+i)/8] ^= 1 << ((from + i) % 8)
		}
	}
}

// patterns are ways in which up to 32 bits one behind the other are changed; the lowest one always is.
func patterns() []uint32 {
	list := []uint32{math.MaxUint32, 0x55555555, 3988292384 >> 5, 0x80000001, 0x80000003, 0xc0000001, 0xff, 0xffff, 0xffffff, 0xff0000ff, 0x04c11db7}
	for i := range 32 {
		list = append(list, 1<<i|1, 1<<31|1<<i|1, math.MaxUint32>>i)
	}
	r := rand.New(rand.NewSource(2))
	for range 20 {
		list = append(list, r.Uint32()|1)
	}
	return list
}

// TestChangedWithin32Bits: in the octets and their sum, from each bit on; the first record, the last, and one between others.
func TestChangedWithin32Bits(t *testing.T) {
	r := rand.New(rand.NewSource(3))
	for _, p := range []string{"", "\x00", "a", "abc", "\x00\x00\x00\x00\x00", "\xff\xff\xff\xff", "123456789", string(randomOctets(r, 13)), string(randomOctets(r, 130))} {
		for _, around := range [][2][]string{{nil, nil}, {{"right"}, nil}, {{"", "right"}, {"behind", "right"}}} {
			ahead, behind := around[0], around[1]
			before := len(laid(ahead))
			b := []byte(laid(ahead) + octetsOf(p) + laid(behind))
			end := 8 * (before + len(octetsOf(p)))
			for from := 8 * (before + len(octetsOfUint(len(p)))); from < end; from++ {
				for _, x := range patterns() {
					x &= math.MaxUint32 >> max(0, 32-(end-from))
					change(b, from, x)
					if list, n, e := frame.All(b); !same(list, ahead) || n != before || e != api.ErrSum {
						t.Fatalf("%q, changed by %#x from bit %d on, is told as %q, %d, %v", p, x, from-8*before, list, n, e)
					}
					change(b, from, x)
				}
			}
		}
	}
}

// TestChangedAnywhereWithin32Bits: also in the size, which may make a record of another length.
func TestChangedAnywhereWithin32Bits(t *testing.T) {
	for _, p := range append(short(), strings.Repeat("\x00", 127), strings.Repeat("x", 128)) {
		whole := []byte(octetsOf(p))
		for from := range 8 * len(whole) {
			for _, x := range patterns() {
				x &= math.MaxUint32 >> max(0, 32-(8*len(whole)-from))
				expectNotTold(t, whole, from, x)
			}
		}
	}
}

// TestAllSmallPatterns: all ways to change up to ten bits one behind the other.
func TestAllSmallPatterns(t *testing.T) {
	for _, p := range []string{"", "a", "\x00\x00\x00"} {
		whole := []byte(octetsOf(p))
		for from := range 8 * len(whole) {
			for x := uint32(1); x < 1<<min(10, 8*len(whole)-from); x += 2 {
				expectNotTold(t, whole, from, x)
			}
		}
	}
}

// expectNotTold changes a whole record, and back; changed it is not told as one of the same length.
func expectNotTold(t *testing.T, whole []byte, from int, pattern uint32) {
	t.Helper()
	change(whole, from, pattern)
	p, rest, e := frame.Get(whole)
	if e == api.OK && len(rest) == 0 {
		t.Fatalf("%q, changed by %#x from bit %d on, is told as %q", whole, pattern, from, p)
	}
	if list, n, _ := frame.All(whole); n == len(whole) && len(list) == 1 {
		t.Fatalf("%q, changed by %#x from bit %d on, is told as %q", whole, pattern, from, list)
	}
	change(whole, from, pattern)
}

// All octets

// TestFewOctets: all of up to two octets, and all of up to six of those octets on which something hangs.
func TestFewOctets(t *testing.T) {
	for x := range 256 {
		expectAsModel(t, []byte{byte(x)})
		for y := range 256 {
			expectAsModel(t, []byte{byte(x), byte(y)})
		}
	}
	alphabet := []byte(a + "\x00\x80")
	list := [][]byte{{}}
	for from := 0; len(list[from]) < 6; from++ {
		for _, x := range alphabet {
			list = append(list, append(slices.Clone(list[from]), x))
		}
	}
	for _, b := range list {
		expectAsModel(t, b)
	}
}

// TestChangedOctets: records with an octet changed, left out or laid between.
func TestChangedOctets(t *testing.T) {
	for _, list := range [][]string{{""}, {"a"}, {"", ""}, {"a", "", "bcd"}, {strings.Repeat("x", 128), "a"}} {
		b := []byte(laid(list))
		for at := range b {
			expectAsModel(t, slices.Delete(slices.Clone(b), at, at+1))
			for x := range 256 {
				changed := slices.Clone(b)
				changed[at] = byte(x)
				expectAsModel(t, changed)
				if x%16 < 2 {
					expectAsModel(t, slices.Insert(slices.Clone(b), at, byte(x)))
				}
			}
		}
	}
}

// TestNothingIsKept: what is asked between two calls does not matter.
func TestNothingIsKept(t *testing.T) {
	for _, between := range append(behinds(), "", "\x80\x00", a+a, "\x01b"+a[2:]) {
		frame.Get([]byte(between))
		frame.All([]byte(between))
		frame.Put([]byte(between), []byte(between))
		expectGet(t, a+"z", "a", "z", api.OK)
		expectAll(t, a+octetsOf(""), []string{"a", ""}, 11, api.OK)
		expectPut(t, "a", a)
	}
}

// P1: no arguments make a call panic, or go on for ever; and all hold against a model.
func FuzzCalls(f *testing.F) {
	f.Add([]byte(nil), []byte(nil), uint(0), uint32(1))
	f.Add([]byte(a), []byte("a"), uint(4), uint32(math.MaxUint32))
	f.Add([]byte(a+octetsOf("")+"\x01b"+a[2:]), []byte("\x80"), uint(16), uint32(0x80000001))
	f.Add([]byte("\x81\x80\x04"+a), make([]byte, 130), uint(3), uint32(5))
	f.Add([]byte("\xff\xff\xff\xff\xff\xff\xff\xff\x7f"), []byte(a), uint(40), uint32(9))
	f.Fuzz(func(t *testing.T, b, p []byte, at uint, pattern uint32) {
		if len(b) > 1<<12 || len(p) > 1<<12 {
			return
		}
		expectAsModel(t, b)
		expectPut(t, string(p), octetsOf(string(p)))
		if got := frame.Put(b, p); string(got) != string(b)+octetsOf(string(p)) {
			t.Fatalf("%q behind %q is put as %q", p, b, got)
		}
		whole := frame.Put(nil, p)
		from := int(at % uint(8*len(whole)))
		if pattern = (pattern | 1) & (math.MaxUint32 >> max(0, 32-(8*len(whole)-from))); pattern != 0 {
			expectNotTold(t, whole, from, pattern)
		}
		list, n, _ := frame.All(b)
		again := frame.Put(b[:n], p)
		if got, size, e := frame.All(again); len(got) != len(list)+1 || string(got[len(list)]) != string(p) || size != len(again) || e != api.OK {
			t.Fatalf("%q, put behind the records of %q, is told as %q, %d, %v", p, b, got, size, e)
		}
	})
}

// laid are records one behind the other.
func laid(list []string) string {
	var s strings.Builder
	for _, p := range list {
		s.WriteString(octetsOf(p))
	}
	return s.String()
}

func same(got [][]byte, want []string) bool {
	return slices.EqualFunc(got, want, func(p []byte, s string) bool { return string(p) == s })
}

// scribble changes all octets of b, and of the room behind it.
func scribble(b []byte) {
	b = b[:cap(b)]
	for i := range b {
		b[i] ^= 0x55
	}
}

// expectPut lays p behind some octets, with room behind them and without; b, its room and p stay as they are, and each answer is memory of its own.
func expectPut(t *testing.T, p, want string) {
	t.Helper()
	for _, x := range []struct {
		first string
		room  int
	}{{"", 0}, {"", 8}, {"a", 0}, {"\x80", 3}, {"first", len(want)}, {"first", 2*len(want) + 1}, {strings.Repeat("f", 300), 0}} {
		ground := []byte(x.first + strings.Repeat("#", x.room))
		was := string(ground)
		b, given := ground[:len(x.first)], []byte(p+"behind")
		one, two := frame.Put(b, given[:len(p)]), frame.Put(b, given[:len(p)])
		if string(one) != x.first+want || string(two) != x.first+want {
			t.Errorf("%d octets %.40q behind %.40q are put as %.80q, and then as %.80q, not %.80q", len(p), p, x.first, one, two, x.first+want)
		}
		scribble(two)
		if string(ground) != was || string(one) != x.first+want || string(given) != p+"behind" {
			t.Errorf("%d octets %.40q behind %.40q: what was handed in is changed, or an answer's memory is that of another one", len(p), p, x.first)
		}
	}
}

// expectGet asks Get also of octets with others in the room behind them.
func expectGet(t *testing.T, s, p, rest string, e api.Errno) {
	t.Helper()
	expectGets(t, slices.Clip([]byte(s)), p, rest, e)
	expectGets(t, []byte(s + octetsOf("room"))[:len(s)], p, rest, e)
}

// expectGets asks Get; with an error it tells nothing else, and what is handed in stays as it is.
func expectGets(t *testing.T, b []byte, p, rest string, e api.Errno) {
	t.Helper()
	was := string(b[:cap(b)])
	gotP, gotRest, gotE := frame.Get(b)
	if string(gotP) != p || string(gotRest) != rest || gotE != e {
		t.Errorf("Get of %d octets %.80q is %.80q, %.80q, %v, not %.80q, %.80q, %v", len(b), b, gotP, gotRest, gotE, p, rest, e)
	}
	if string(b[:cap(b)]) != was {
		t.Errorf("%.80q, handed in to Get, was changed to %.80q", was, b[:cap(b)])
	}
}

// expectAll asks All also of octets with others in the room behind them.
func expectAll(t *testing.T, s string, list []string, n int, e api.Errno) {
	t.Helper()
	expectAlls(t, slices.Clip([]byte(s)), list, n, e)
	expectAlls(t, []byte(s + octetsOf("room"))[:len(s)], list, n, e)
}

// expectAlls asks All; what is handed in stays as it is.
func expectAlls(t *testing.T, b []byte, list []string, n int, e api.Errno) {
	t.Helper()
	was := string(b[:cap(b)])
	got, gotN, gotE := frame.All(b)
	if !same(got, list) || gotN != n || gotE != e {
		t.Errorf("All of %d octets %.80q is %.80q, %d, %v, not %.80q, %d, %v", len(b), b, got, gotN, gotE, list, n, e)
	}
	if string(b[:cap(b)]) != was {
		t.Errorf("%.80q, handed in to All, was changed to %.80q", was, b[:cap(b)])
	}
}

// modelUint is P5.1's GetUint, by the library.
func modelUint(b []byte) (int, []byte, api.Errno) {
	end := slices.IndexFunc(b, func(x byte) bool { return x < 128 })
	if end < 0 && len(b) < 9 {
		return 0, nil, api.ErrShort
	}
	if end < 0 || end >= 9 {
		return 0, nil, api.ErrRange
	}
	n, _ := binary.Uvarint(b)
	if n > top {
		return 0, nil, api.ErrRange
	}
	if b[end] == 0 && end > 0 {
		return 0, nil, api.ErrForm
	}
	return int(n), b[end+1:], api.OK
}

// modelGet is P6.2's Get, by the library.
func modelGet(b []byte) (string, string, api.Errno) {
	n, rest, e := modelUint(b)
	if e != api.OK {
		return "", "", e
	}
	if n > large {
		return "", "", api.ErrLarge
	}
	if len(rest) < n || len(rest)-n < 4 {
		return "", "", api.ErrShort
	}
	if binary.LittleEndian.Uint32(rest[n:]) != crc32.ChecksumIEEE(rest[:n]) {
		return "", "", api.ErrSum
	}
	return string(rest[:n]), string(rest[n+4:]), api.OK
}

// modelAll is P6.3's All.
func modelAll(b []byte) ([]string, int, api.Errno) {
	var list []string
	for at := 0; at < len(b); {
		p, _, e := modelGet(b[at:])
		if e != api.OK {
			return list, at, e
		}
		list = append(list, p)
		at += len(octetsOf(p))
	}
	return list, len(b), api.OK
}

// expectAsModel asks Get and All of b; and that what they tell is put again as the same octets.
func expectAsModel(t *testing.T, b []byte) {
	t.Helper()
	p, rest, e := modelGet(b)
	expectGets(t, b, p, rest, e)
	if got, rest, e := frame.Get(b); e == api.OK && string(frame.Put(nil, got))+string(rest) != string(b) {
		t.Errorf("what is got of %.80q is put as %.80q", b, frame.Put(nil, got))
	}
	list, n, e := modelAll(b)
	expectAlls(t, b, list, n, e)
	got, n, _ := frame.All(b)
	var again []byte
	for _, p := range got {
		again = frame.Put(again, p)
	}
	if !bytes.Equal(again, b[:n]) {
		t.Errorf("what is told of %.80q is put as %.80q", b, again)
	}
}
