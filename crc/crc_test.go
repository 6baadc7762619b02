package crc_test

import (
	"bytes"
	"hash/crc32"
	"math"
	"math/bits"
	"math/rand"
	"slices"
	"testing"

	"watchtower/crc"
)

// sums are sums to begin with: the ends, each bit alone and each bit missing, and some between.
func sums() []uint32 {
	list := []uint32{0, 1, 1 << 31, math.MaxUint32, 3988292384, 0xff, 0x100, 0xffffff00, 0x7fffffff, 0x12345678, 0x55555555, 0xaaaaaaaa}
	for i := range 32 {
		list = append(list, 1<<i, ^uint32(1<<i), 1<<i-1)
	}
	r := rand.New(rand.NewSource(4))
	for range 40 {
		list = append(list, r.Uint32())
	}
	return list
}

// bitsOf are the bits of c, the lowest first.
func bitsOf(c uint32) (l [32]bool) {
	for i := range l {
		l[i] = c>>i%2 == 1
	}
	return l
}

// numberOf is the number that has those bits, the lowest first.
func numberOf(l [32]bool) (c uint32) {
	for i, one := range l {
		if one {
			c += 1 << i
		}
	}
	return c
}

// slowStep is P4.1's Step in its own words, bit by bit.
func slowStep(c uint32, x byte) uint32 {
	l, octet, poly := bitsOf(c), bitsOf(uint32(x)), bitsOf(3988292384)
	for i := range 8 {
		l[i] = l[i] != octet[i]
	}
	for range 8 {
		lost := l[0]
		copy(l[:], l[1:])
		l[31] = false
		for i := range l {
			if lost {
				l[i] = l[i] != poly[i]
			}
		}
	}
	return numberOf(l)
}

func slowUpdate(c uint32, b []byte) uint32 {
	for _, x := range b {
		c = slowStep(c, x)
	}
	return c
}

// stepEach is Update by Step of each octet, one behind the other.
func stepEach(c uint32, b []byte) uint32 {
	for _, x := range b {
		c = crc.Step(c, x)
	}
	return c
}

// everyOctet has each octet once.
func everyOctet() []byte {
	b := make([]byte, 256)
	for i := range b {
		b[i] = byte(i)
	}
	return b
}

func randomOctets(r *rand.Rand, n int) []byte {
	b := make([]byte, n)
	r.Read(b)
	return b
}

// texts are octets of many lengths: none, one, some, a table's worth and more.
func texts() [][]byte {
	list := [][]byte{nil, {}, {0}, {1}, {0x80}, {0xff}, []byte("a"), []byte("123456789"), make([]byte, 40), bytes.Repeat([]byte{0xff}, 40), everyOctet()}
	r := rand.New(rand.NewSource(5))
	for _, n := range []int{1, 2, 3, 4, 5, 7, 8, 9, 31, 32, 33, 255, 256, 257, 1000} {
		list = append(list, randomOctets(r, n))
	}
	return list
}

func TestStepIsThePromisesWords(t *testing.T) {
	for _, c := range sums() {
		for x := range 256 {
			if got, want := crc.Step(c, byte(x)), slowStep(c, byte(x)); got != want {
				t.Fatalf("Step(%#x, %#x) is %#x, want %#x", c, x, got, want)
			}
		}
	}
}

func TestStepOfSomeSums(t *testing.T) {
	for _, x := range []struct {
		c    uint32
		x    byte
		want uint32
	}{
		{0, 0, 0},
		{0, 0x80, 3988292384},     // the one bit is lost last: nothing moves behind it
		{0x80, 0, 3988292384},     // so it is if it comes from the sum
		{0xff, 0xff, 0},           // like bits go out
		{1 << 8, 0, 1},            // moved by eight, nothing lost
		{1 << 31, 0, 1 << 23},     // a zero comes from the left
		{0xffffff00, 0, 0xffffff}, // eight zeros come from the left
		{0x40, 0, 3988292384 >> 1},
		{0, 0x40, 3988292384 >> 1},
		{0, 1, 0x77073096},
		{1, 0, 0x77073096},
		{math.MaxUint32, 0, 0xffffff ^ 0x2d02ef8d},
		{math.MaxUint32, 0xff, 0xffffff},
	} {
		if got := crc.Step(x.c, x.x); got != x.want {
			t.Errorf("Step(%#x, %#x) is %#x, want %#x", x.c, x.x, got, x.want)
		}
	}
}

func TestUpdateOfNoOctets(t *testing.T) {
	room := []byte("behind")
	for _, c := range sums() {
		for _, b := range [][]byte{nil, {}, room[:0], room[len(room):]} {
			if got := crc.Update(c, b); got != c {
				t.Errorf("Update(%#x, no octets) is %#x", c, got)
			}
		}
	}
}

func TestUpdateOfOneOctet(t *testing.T) {
	for _, c := range sums()[:48] {
		for x := range 256 {
			if got, want := crc.Update(c, []byte{byte(x)}), slowStep(c, byte(x)); got != want {
				t.Fatalf("Update(%#x, %#x) is %#x, want %#x", c, x, got, want)
			}
		}
	}
}

func TestUpdateIsStepOfEachOctet(t *testing.T) {
	for _, b := range texts() {
		for _, c := range sums()[:24] {
			got := crc.Update(c, b)
			if want := stepEach(c, b); got != want {
				t.Fatalf("Update(%#x, %x) is %#x, Step of each %#x", c, b, got, want)
			}
			if want := slowUpdate(c, b); got != want {
				t.Fatalf("Update(%#x, %x) is %#x, want %#x", c, b, got, want)
			}
		}
	}
}

// TestUpdateHangsOnOrder: octets go in one behind the other, not as a heap.
func TestUpdateHangsOnOrder(t *testing.T) {
	forth := []byte("watchtower")
	back := slices.Clone(forth)
	slices.Reverse(back)
	for _, c := range sums() {
		if crc.Update(c, forth) == crc.Update(c, back) {
			t.Errorf("from %#x on, %q and %q have one sum", c, forth, back)
		}
	}
}

func TestUpdateInTwoPieces(t *testing.T) {
	for _, b := range texts() {
		for _, c := range []uint32{0, 1, 1 << 31, math.MaxUint32, 0x12345678} {
			whole := crc.Update(c, b)
			for cut := range len(b) + 1 {
				if got := crc.Update(crc.Update(c, b[:cut]), b[cut:]); got != whole {
					t.Fatalf("Update(%#x, %x), cut at %d, is %#x, whole %#x", c, b, cut, got, whole)
				}
			}
		}
	}
}

func TestSumOfKnownTexts(t *testing.T) {
	for s, want := range map[string]uint32{
		"":                 0,
		"123456789":        3421780262,
		"a":                0xe8b7be43,
		"abc":              0x352441c2,
		"\x00":             0xd202ef8d,
		"\xff":             0xff000000,
		"\x00\x00\x00\x00": 0x2144df1c,
		"\xff\xff\xff\xff": 0xffffffff,
		"The quick brown fox jumps over the lazy dog": 0x414fa339,
	} {
		if got := crc.Sum([]byte(s)); got != want {
			t.Errorf("Sum(%q) is %#x, want %#x", s, got, want)
		}
	}
	if got := crc.Sum(nil); got != 0 {
		t.Errorf("Sum(nil) is %#x", got)
	}
}

func TestSumIsUpdateWithAllBitsChanged(t *testing.T) {
	for _, b := range texts() {
		got := crc.Sum(b)
		if want := math.MaxUint32 - crc.Update(math.MaxUint32, b); got != want {
			t.Errorf("Sum(%x) is %#x, by Update %#x", b, got, want)
		}
		if want := crc32.ChecksumIEEE(b); got != want {
			t.Errorf("Sum(%x) is %#x, the library's %#x", b, got, want)
		}
	}
}

// change changes the bits of pattern in a copy of b, from a bit on. Bits lie one behind the other as Step loses them: an octet's lowest first, and behind its highest the next octet's lowest.
func change(b []byte, from int, pattern uint32) []byte {
	b = slices.Clone(b)
	for i := range 32 {
		if pattern>>i%2 == 1 {
			b[(from+i)/8] ^= 1 << ((from + i) % 8)
		}
	}
	return b
}

// fits: are all bits of pattern, from a bit on, in a text of n octets?
func fits(n, from int, pattern uint32) bool {
	return from+bits.Len32(pattern) <= 8*n
}

// patterns are ways in which up to 32 bits one behind the other are unlike: one bit, two, some and all.
func patterns() []uint32 {
	list := []uint32{math.MaxUint32, 0x55555555, 0xaaaaaaaa, 3988292384, 0x04c11db7, bits.Reverse32(0x04c11db7), 0xff, 0xffff, 0xffffff, 0xff000000, 0xff0000ff, 0x80000003, 0xc0000001}
	for i := range 32 {
		list = append(list, 1<<i, 1<<i|1, 1<<31|1<<i, math.MaxUint32>>i, math.MaxUint32<<i)
	}
	r := rand.New(rand.NewSource(6))
	for range 30 {
		list = append(list, r.Uint32()|1)
	}
	return list
}

func TestUnlikeWithin32BitsHaveUnlikeSums(t *testing.T) {
	r := rand.New(rand.NewSource(7))
	for _, b := range [][]byte{make([]byte, 1), make([]byte, 4), make([]byte, 5), bytes.Repeat([]byte{0xff}, 6), []byte("123456789"), randomOctets(r, 13), randomOctets(r, 14)} {
		sum := crc.Sum(b)
		for from := range 8 * len(b) { // each of the eight bits of each octet, so the beginning, the middle and the end
			for _, p := range patterns() {
				if !fits(len(b), from, p) {
					continue
				}
				if other := change(b, from, p); crc.Sum(other) == sum {
					t.Fatalf("%x and %x have one sum, %#x", b, other, sum)
				}
			}
		}
	}
}

// TestUnlikeInLongTexts: at the beginning, in the middle and at the end of texts that are longer than any table.
func TestUnlikeInLongTexts(t *testing.T) {
	r := rand.New(rand.NewSource(8))
	for _, n := range []int{300, 1 << 10, 4 << 10} {
		b := randomOctets(r, n)
		sum := crc.Sum(b)
		for _, octet := range []int{0, 1, n/2 - 1, n / 2, n - 5, n - 4, n - 1} {
			for bit := range 8 {
				for _, p := range []uint32{1, 3, 0x80000001, math.MaxUint32, 3988292384, r.Uint32()} {
					if from := 8*octet + bit; fits(n, from, p) && crc.Sum(change(b, from, p)) == sum {
						t.Errorf("%d octets, unlike by %#x from bit %d on, have one sum", n, p, from)
					}
				}
			}
		}
	}
}

func TestUpdatesOfUnlikeOctetsAreUnlike(t *testing.T) {
	b := []byte("watchtower")
	for _, c := range sums() {
		was := crc.Update(c, b)
		for from := range 8 * len(b) {
			for _, p := range []uint32{1, 5, 0x40000001, math.MaxUint32} {
				if fits(len(b), from, p) && crc.Update(c, change(b, from, p)) == was {
					t.Fatalf("from %#x on, unlike by %#x from bit %d on have one sum", c, p, from)
				}
			}
		}
	}
}

// independent: is no sum of some of these, by exclusive or, zero?
func independent(list []uint32) bool {
	var kept []uint32
	for _, v := range list {
		for _, k := range kept {
			v = min(v, v^k)
		}
		if v == 0 {
			return false
		}
		kept = append(kept, v)
	}
	return true
}

// TestNo32BitsGoOut stands for all 2^32 - 1 patterns at once: what a pattern changes in the sum is what its bits change one by one (which is held first), and what 32 bits one behind the other change is independent.
func TestNo32BitsGoOut(t *testing.T) {
	r := rand.New(rand.NewSource(9))
	for _, n := range []int{5, 6, 9, 64} {
		b := randomOctets(r, n)
		sum := crc.Sum(b)
		for from := range 8*n - 31 {
			changes := make([]uint32, 32)
			for i := range changes {
				changes[i] = sum ^ crc.Sum(change(b, from+i, 1))
			}
			p := r.Uint32()
			all := sum
			for i, c := range changes {
				if p>>i%2 == 1 {
					all ^= c
				}
			}
			if got := crc.Sum(change(b, from, p)); got != all {
				t.Fatalf("%d octets, unlike by %#x from bit %d on: sum %#x, bit by bit %#x", n, p, from, got, all)
			}
			if !independent(changes) {
				t.Fatalf("%d octets: some bits of the 32 from bit %d on leave the sum as it is", n, from)
			}
		}
	}
}

// TestArgumentsStay: the octets handed in stay as they are, and so does what lies ahead of them and behind.
func TestArgumentsStay(t *testing.T) {
	for _, b := range texts() {
		ground := slices.Concat([]byte("ahead"), b, []byte("behind"))
		was := slices.Clone(ground)
		piece := ground[5 : 5+len(b)]
		sum, updated := crc.Sum(piece), crc.Update(7, piece)
		if !bytes.Equal(ground, was) {
			t.Fatalf("%x has become %x", was, ground)
		}
		if crc.Sum(piece) != sum || crc.Update(7, piece) != updated {
			t.Fatalf("%x: asked again, the sum is another", b)
		}
	}
}

// TestNothingIsKept: what is asked between two calls does not matter.
func TestNothingIsKept(t *testing.T) {
	var first []uint32
	for _, b := range texts() {
		first = append(first, crc.Sum(b))
	}
	for i, b := range slices.Backward(texts()) {
		crc.Step(uint32(i), byte(i))
		crc.Update(uint32(i), []byte("between"))
		if got := crc.Sum(b); got != first[i] {
			t.Fatalf("Sum(%x) is %#x, was %#x", b, got, first[i])
		}
	}
}

func TestLongTextsEnd(t *testing.T) {
	b := randomOctets(rand.New(rand.NewSource(10)), 1<<20+3)
	if got, want := crc.Sum(b), crc32.ChecksumIEEE(b); got != want {
		t.Errorf("Sum is %#x, want %#x", got, want)
	}
}

// FuzzCalls holds every call against the promise's words, at arguments of any kind.
func FuzzCalls(f *testing.F) {
	f.Add(uint32(0), []byte(nil), 0, uint32(1))
	f.Add(uint32(math.MaxUint32), []byte("123456789"), 4, uint32(math.MaxUint32))
	f.Fuzz(func(t *testing.T, c uint32, b []byte, at int, p uint32) {
		if len(b) > 1<<12 {
			return
		}
		was := slices.Clone(b)
		updated := crc.Update(c, b)
		if updated != slowUpdate(c, b) || updated != stepEach(c, b) {
			t.Fatalf("Update(%#x, %x) is %#x", c, b, updated)
		}
		if crc.Sum(b) != crc32.ChecksumIEEE(b) {
			t.Fatalf("Sum(%x) is %#x", b, crc.Sum(b))
		}
		if cut := int(uint(at) % uint(len(b)+1)); crc.Update(crc.Update(c, b[:cut]), b[cut:]) != updated {
			t.Fatalf("Update(%#x, %x) is another, cut at %d", c, b, cut)
		}
		if from := int(uint(at) % uint(8*len(b)+1)); p != 0 && fits(len(b), from, p) && crc.Update(c, change(b, from, p)) == updated {
			t.Fatalf("Update(%#x, %x) is the same, unlike by %#x from bit %d on", c, b, p, from)
		}
		if !bytes.Equal(b, was) {
			t.Fatalf("%x has become %x", was, b)
		}
	})
}
