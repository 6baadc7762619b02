package label_test

import (
	"fmt"
	"math/rand"
	"regexp"
	"slices"
	"sort"
	"strings"
	"testing"

	"watchtower/api"
	"watchtower/label"
)

const (
	lower  = "abcdefghijklmnopqrstuvwxyz"
	upper  = "ABCDEFGHIJKLMNOPQRSTUVWXYZ"
	digits = "0123456789"
)

var (
	text64 = strings.Repeat("x", 64)
	text65 = strings.Repeat("x", 65)
)

// pairs are made of texts of the form name=value.
func pairs(texts ...string) []api.Pair {
	var l []api.Pair
	for _, s := range texts {
		name, value, _ := strings.Cut(s, "=")
		l = append(l, api.Pair{Name: name, Value: value})
	}
	return l
}

// rising are n labels, a to p and on: a=0, b=1 and so on.
func rising(n int) []api.Pair {
	var l []api.Pair
	for i := range n {
		l = append(l, api.Pair{Name: lower[i : i+1], Value: fmt.Sprint(i)})
	}
	return l
}

// noLabels are lists that are none, of every kind of fault.
var noLabels = [][]api.Pair{
	pairs("b=1", "a=2"), pairs("a=1", "c=3", "b=2"), pairs("a=1", "Z=1"), pairs("aa=1", "a=1"), // not rising
	pairs("a=1", "a=2"), pairs("a=1", "a=1"), pairs("a=1", "b=2", "b=3"), pairs("a=1", "b=2", "a=3"), // twice
	pairs("=1"), pairs("1=1"), pairs("a=1", "a-b=2"), pairs("=1", "a=1"), pairs("a=1", text65+"=2"), pairs("aé=1"), // no name
	pairs("a=" + text65), pairs("a=1", "b="+text65), pairs("a="+text65, "b=1"), // no value
	rising(17), rising(26), make([]api.Pair, 16), make([]api.Pair, 17), make([]api.Pair, 300), // too many, or empty
	slices.Concat(rising(16)[1:], rising(1)), pairs("1=" + text65), pairs("a="+text65, "a=1"),
}

// P3.1

func TestNameLengths(t *testing.T) {
	for n := range 300 {
		for _, c := range []string{"a", "Z", "_"} {
			expectName(t, strings.Repeat(c, n), 1 <= n && n <= 64)
		}
		expectName(t, "a"+strings.Repeat("7", n), n <= 63)
	}
	for _, n := range []int{1 << 9, 1<<9 + 1, 1 << 16, 1<<16 + 1} {
		expectName(t, strings.Repeat("a", n), false)
	}
}

func TestNameOctets(t *testing.T) {
	for c := range 256 {
		o := string([]byte{byte(c)})
		first := strings.Contains(lower+upper+"_", o)
		later := first || strings.Contains(digits, o)
		expectName(t, o, first)
		expectName(t, o+"a", first)
		expectName(t, o+text64[1:], first)
		expectName(t, "a"+o, later)
		expectName(t, "_"+o+"_", later)
		expectName(t, "9"+o, false)
		expectName(t, text64[:63]+o, later)
		expectName(t, text64[:62]+o+"x", later)
	}
}

func TestNameOthers(t *testing.T) {
	for s, ok := range map[string]bool{
		"up": true, "__name__": true, "_": true, "__": true, "_0": true, "A9": true, "a1b2": true, "Zz_09": true, lower + upper: true, "_" + digits: true,
		digits: false, "0a": false, "9_": false, "a b": false, " a": false, "a ": false, "a\n": false, "\na": false, "a\x00": false, "a=1": false, "a:b": false, "a.b": false, "a-b": false,
		"é": false, "aé": false, "a\u0661": false, "\uff41": false, "a\u212a": false, "\u017f": false, "a\xff": false, "\xff": false, "\xc3": false, "\xed\xa0\x80": false, "a\ufffd": false,
	} {
		expectName(t, s, ok)
	}
}

func TestSane(t *testing.T) {
	for _, l := range [][]api.Pair{
		nil, {}, pairs("a=1"), pairs("a="), pairs("a=1", "b=2"), pairs("a=2", "b=1"), pairs("a=1", "b=1"), rising(15), rising(16),
		pairs("a=1", "aa=1", "ab=1", "b=1"), pairs("A=1", "B=1", "_=1", "a=1"), pairs("Z=1", "_0=1", "__=1", "_a=1", "a=1"), pairs("a=1", "a0=1", "aA=1", "a_=1", "aa=1"), pairs("a1=1", "a10=1", "a2=1"),
		pairs(text64 + "=1"), pairs("a=" + text64), pairs(text64+"="+text64, "y="), pairs("a=é\xff\x00=\n\""),
	} {
		if !label.Sane(l) {
			t.Errorf("Sane(%.200q) is false", l)
		}
		expectMake(t, l, l, api.OK)
	}
	for _, l := range noLabels {
		if label.Sane(l) {
			t.Errorf("Sane(%.200q) is true", l)
		}
	}
}

func TestMakeOrders(t *testing.T) {
	for _, x := range []struct{ l, want []api.Pair }{
		{pairs("b=1", "a=2"), pairs("a=2", "b=1")},
		{pairs("c=1", "b=2", "a=3"), pairs("a=3", "b=2", "c=1")},
		{pairs("aa=1", "a=2"), pairs("a=2", "aa=1")},
		{pairs("ab=1", "b=2", "a=3", "aa=4"), pairs("a=3", "aa=4", "ab=1", "b=2")},
		{pairs("a=1", "_=2", "Z=3", "A=4"), pairs("A=4", "Z=3", "_=2", "a=1")},
		{pairs("a10=1", "a9=2", "a=3"), pairs("a=3", "a10=1", "a9=2")},
		{pairs("b=", "a="+text64), pairs("a="+text64, "b=")},
		{pairs("b=same", "a=same"), pairs("a=same", "b=same")},
		{pairs("a=1", "A=1"), pairs("A=1", "a=1")},
		{pairs(text64+"=1", text64[1:]+"=2"), pairs(text64[1:]+"=2", text64+"=1")},
	} {
		expectMake(t, x.l, x.want, api.OK)
	}
	for n := range 17 {
		back := rising(n)
		slices.Reverse(back)
		expectMake(t, back, rising(n), api.OK)
	}
}

func TestMakeValues(t *testing.T) {
	for n := range 300 {
		l := []api.Pair{{Name: "a", Value: strings.Repeat("\xff", n)}}
		if n <= 64 {
			expectMake(t, l, l, api.OK)
		} else {
			expectMake(t, l, nil, api.ErrLarge)
		}
	}
	for c := range 256 {
		l := []api.Pair{{Name: "a", Value: string([]byte{byte(c)})}, {Name: "b", Value: strings.Repeat(string([]byte{byte(c)}), 64)}}
		expectMake(t, l, l, api.OK)
	}
	// Octets are counted, not what they are signs of.
	expectMake(t, pairs("a="+strings.Repeat("é", 32)), pairs("a="+strings.Repeat("é", 32)), api.OK)
	expectMake(t, pairs("a="+strings.Repeat("é", 33)), nil, api.ErrLarge)
}

func TestMakeErrors(t *testing.T) {
	for _, x := range []struct {
		l []api.Pair
		e api.Errno
	}{
		{rising(17), api.ErrLarge}, {rising(26), api.ErrLarge}, {make([]api.Pair, 1<<16), api.ErrLarge},
		{pairs("a=" + text65), api.ErrLarge}, {pairs("a=1", "b="+text65), api.ErrLarge}, {pairs("a="+text65, "b=1"), api.ErrLarge}, {slices.Concat(rising(15), pairs("p="+text65)), api.ErrLarge},
		{pairs("=1"), api.ErrName}, {pairs("1=1"), api.ErrName}, {pairs(text65 + "=1"), api.ErrName}, {pairs("a b=1"), api.ErrName}, {pairs("a=1", "b=2", "c-=3"), api.ErrName}, {pairs("-c=3", "a=1", "b=2"), api.ErrName}, {make([]api.Pair, 1), api.ErrName}, {make([]api.Pair, 16), api.ErrName},
		{pairs("a=1", "a=2"), api.ErrTwice}, {pairs("a=1", "a=1"), api.ErrTwice}, {pairs("a=1", "b=2", "a=3"), api.ErrTwice}, {pairs("b=1", "a=2", "b=3"), api.ErrTwice}, {pairs("c=0", "a=1", "b=2", "b=3"), api.ErrTwice}, {slices.Concat(rising(15), pairs("h=1")), api.ErrTwice}, {pairs("a=", "a="), api.ErrTwice},
	} {
		expectMake(t, x.l, nil, x.e)
	}
}

// R2: of every choice of faults, in any order of the pairs, the first one in the chapter's order is told.
func TestMakeErrorsInOrder(t *testing.T) {
	r := rand.New(rand.NewSource(1))
	for faults := range 16 {
		l, want := pairs("a=1", "b=2", "c=3"), api.OK
		if faults&1 != 0 {
			l, want = append(l, pairs("b=9")...), api.ErrTwice
		}
		if faults&2 != 0 {
			l, want = append(l, pairs("1=1", "é=1")...), api.ErrName
		}
		if faults&4 != 0 {
			l, want = append(l, pairs("d="+text65)...), api.ErrLarge
		}
		if faults&8 != 0 {
			l, want = append(l, rising(26)[5:20]...), api.ErrLarge
		}
		for range 50 {
			r.Shuffle(len(l), func(i, k int) { l[i], l[k] = l[k], l[i] })
			if want != api.OK {
				expectMake(t, l, nil, want)
			} else {
				expectMake(t, l, pairs("a=1", "b=2", "c=3"), api.OK)
			}
		}
	}
	// One pair with several faults, ahead of a pair with a later one and behind it; the same bad name twice.
	for _, x := range []struct {
		l []api.Pair
		e api.Errno
	}{
		{pairs("1=" + text65), api.ErrLarge}, {pairs("1=1", "a="+text65), api.ErrLarge}, {pairs("a="+text65, "1=1"), api.ErrLarge},
		{pairs("a="+text65, "a=1"), api.ErrLarge}, {pairs("a=1", "a=1", "b="+text65), api.ErrLarge},
		{pairs("a=1", "a=2", "1=1"), api.ErrName}, {pairs("1=1", "a=1", "a=2"), api.ErrName}, {pairs("1=1", "1=1"), api.ErrName}, {pairs("=", "="), api.ErrName},
		{slices.Concat(rising(16), pairs("a=1")), api.ErrLarge}, {slices.Concat(rising(16), pairs("1=1")), api.ErrLarge}, {make([]api.Pair, 17), api.ErrLarge},
		{slices.Concat(rising(15), pairs("1=1")), api.ErrName}, {slices.Concat(rising(14), pairs("a=1", "1=1")), api.ErrName},
	} {
		expectMake(t, x.l, nil, x.e)
	}
}

// P3.2

func TestGet(t *testing.T) {
	l := pairs("A=0", "a=1", "aa=2", "b=", "c=é\xff")
	for name, want := range map[string]string{"A": "0", "a": "1", "aa": "2", "b": "", "c": "é\xff"} {
		expectGet(t, l, name, want, true)
	}
	for _, name := range []string{"", "B", "0", "1", "ab", "aaa", "d", "é\xff", "a=1", text64, text65, strings.Repeat("a", 1<<16)} {
		expectGet(t, l, name, "", false)
		expectGet(t, nil, name, "", false)
		expectGet(t, []api.Pair{}, name, "", false)
	}
	for _, p := range rising(16) {
		expectGet(t, rising(16), p.Name, p.Value, true)
	}
	expectGet(t, rising(16), "q", "", false)
	expectGet(t, pairs(text64+"="+text64), text64, text64, true)
	for _, l := range noLabels {
		for _, name := range []string{"", "a", "b", "c", "1", text65} {
			expectGet(t, l, name, "", false)
		}
	}
}

func TestWith(t *testing.T) {
	for _, x := range []struct {
		l           []api.Pair
		name, value string
		want        []api.Pair
		e           api.Errno
	}{
		{nil, "a", "1", pairs("a=1"), api.OK}, {[]api.Pair{}, "a", "", pairs("a="), api.OK},
		// not there: ahead, between, behind; next to a name that it begins, or that begins it
		{pairs("b=1", "d=2"), "a", "9", pairs("a=9", "b=1", "d=2"), api.OK},
		{pairs("b=1", "d=2"), "c", "9", pairs("b=1", "c=9", "d=2"), api.OK},
		{pairs("b=1", "d=2"), "e", "9", pairs("b=1", "d=2", "e=9"), api.OK},
		{pairs("b=1", "d=2"), "B", "9", pairs("B=9", "b=1", "d=2"), api.OK},
		{pairs("b=1", "d=2"), "bb", "9", pairs("b=1", "bb=9", "d=2"), api.OK},
		{pairs("bb=1", "d=2"), "b", "9", pairs("b=9", "bb=1", "d=2"), api.OK},
		// there
		{pairs("a=1", "b=2", "c=3"), "a", "9", pairs("a=9", "b=2", "c=3"), api.OK},
		{pairs("a=1", "b=2", "c=3"), "b", "9", pairs("a=1", "b=9", "c=3"), api.OK},
		{pairs("a=1", "b=2", "c=3"), "c", "9", pairs("a=1", "b=2", "c=9"), api.OK},
		{pairs("a=1", "b=2", "c=3"), "b", "2", pairs("a=1", "b=2", "c=3"), api.OK},
		{pairs("a=1", "b=2", "c=3"), "b", "", pairs("a=1", "b=", "c=3"), api.OK},
		// the edges of names and values
		{pairs("a=1"), text64, text64, pairs("a=1", text64+"="+text64), api.OK},
		{pairs("a=1"), text65, "1", nil, api.ErrName}, {pairs("a=1"), "", "1", nil, api.ErrName}, {pairs("a=1"), "1", "1", nil, api.ErrName}, {nil, "a b", "1", nil, api.ErrName},
		{pairs("a=1"), "b", text65, nil, api.ErrLarge}, {pairs("a=1"), "a", text65, nil, api.ErrLarge}, {pairs("a=1"), "1", text65, nil, api.ErrLarge}, {nil, "", text65, nil, api.ErrLarge}, {nil, "a", strings.Repeat("x", 1<<16), nil, api.ErrLarge},
		// the edges of the count
		{rising(15), "p", "15", rising(16), api.OK}, {rising(16)[1:], "a", "0", rising(16), api.OK}, {rising(15), "1", "1", nil, api.ErrName}, {rising(15), "p", text65, nil, api.ErrLarge},
		{rising(16), "q", "1", nil, api.ErrLarge}, {rising(16), "A", "1", nil, api.ErrLarge}, {rising(16), "1", "1", nil, api.ErrLarge}, {rising(16), "", "", nil, api.ErrLarge}, {rising(16), "a", text65, nil, api.ErrLarge},
	} {
		expectWith(t, x.l, x.name, x.value, x.want, x.e)
	}
	for i, p := range rising(16) {
		want := rising(16)
		want[i].Value = "new"
		expectWith(t, rising(16), p.Name, "new", want, api.OK)
	}
	for _, l := range noLabels {
		expectWith(t, l, "b", "9", pairs("b=9"), api.OK)
		expectWith(t, l, "1", "9", nil, api.ErrName)
		expectWith(t, l, "", "", nil, api.ErrName)
		expectWith(t, l, "b", text65, nil, api.ErrLarge)
	}
}

func TestWithout(t *testing.T) {
	for _, x := range []struct {
		l    []api.Pair
		name string
		want []api.Pair
	}{
		{nil, "a", nil}, {nil, "", nil}, {pairs("a=1"), "a", nil}, {pairs("a="), "a", nil},
		{pairs("a=1", "b=2", "c=3"), "a", pairs("b=2", "c=3")}, {pairs("a=1", "b=2", "c=3"), "b", pairs("a=1", "c=3")}, {pairs("a=1", "b=2", "c=3"), "c", pairs("a=1", "b=2")},
		{pairs("a=1", "aa=2", "b=3"), "a", pairs("aa=2", "b=3")}, {pairs("a=1", "aa=2", "b=3"), "aa", pairs("a=1", "b=3")},
	} {
		expectWithout(t, x.l, x.name, x.want)
	}
	for _, name := range []string{"", "A", "1", "ab", "z", "2", "a=1", "é", "\xff", text64, text65, strings.Repeat("a", 1<<16)} {
		l := pairs("a=1", "aa=2", "b=3")
		expectWithout(t, l, name, l)
	}
	for i, p := range rising(16) {
		expectWithout(t, rising(16), p.Name, slices.Delete(rising(16), i, i+1))
	}
	expectWithout(t, rising(16), "q", rising(16))
	for _, l := range noLabels {
		for _, name := range []string{"", "a", "z", "1"} {
			expectWithout(t, l, name, nil)
		}
	}
}

func TestMerge(t *testing.T) {
	for _, x := range []struct {
		a, b, want []api.Pair
		e          api.Errno
	}{
		{nil, nil, nil, api.OK}, {pairs("a=1"), nil, pairs("a=1"), api.OK}, {nil, pairs("a=1"), pairs("a=1"), api.OK},
		{pairs("a=1", "c=3"), pairs("b=2", "c=4"), pairs("a=1", "b=2", "c=4"), api.OK},
		{pairs("b=2", "c=4"), pairs("a=1", "c=3"), pairs("a=1", "b=2", "c=3"), api.OK},
		{pairs("a=1", "b=2"), pairs("c=3", "d=4"), pairs("a=1", "b=2", "c=3", "d=4"), api.OK},
		{pairs("c=3", "d=4"), pairs("a=1", "b=2"), pairs("a=1", "b=2", "c=3", "d=4"), api.OK},
		{pairs("a=1", "c=3"), pairs("b=2", "d=4"), pairs("a=1", "b=2", "c=3", "d=4"), api.OK},
		{pairs("a=1", "b=2"), pairs("a=3", "b=4"), pairs("a=3", "b=4"), api.OK},
		{pairs("a=1"), pairs("a="), pairs("a="), api.OK}, {pairs("a="), pairs("a=1"), pairs("a=1"), api.OK}, {pairs("a=1"), pairs("a=1"), pairs("a=1"), api.OK},
		{pairs("a=1", "b=2"), pairs("aa=3"), pairs("a=1", "aa=3", "b=2"), api.OK}, {pairs("aa=1"), pairs("A=2", "a=3"), pairs("A=2", "a=3", "aa=1"), api.OK},
		{pairs("a=" + text64), pairs(text64 + "=1"), pairs("a="+text64, text64+"=1"), api.OK},
		// the edges of the count
		{rising(8), rising(16)[8:], rising(16), api.OK}, {rising(16)[8:], rising(8), rising(16), api.OK}, {rising(15), rising(16)[15:], rising(16), api.OK}, {rising(16), nil, rising(16), api.OK}, {nil, rising(16), rising(16), api.OK}, {rising(16), rising(16), rising(16), api.OK}, {rising(12), rising(16)[4:], rising(16), api.OK},
		{rising(8), rising(17)[8:], nil, api.ErrLarge}, {rising(17)[8:], rising(8), nil, api.ErrLarge}, {rising(16), rising(17)[16:], nil, api.ErrLarge}, {rising(17)[16:], rising(16), nil, api.ErrLarge}, {rising(16), pairs("A=1"), nil, api.ErrLarge}, {rising(16), rising(17)[1:], nil, api.ErrLarge}, {rising(10), rising(26)[10:], nil, api.ErrLarge},
	} {
		expectMerge(t, x.a, x.b, x.want, x.e)
	}
	for i, p := range rising(16) {
		want := rising(16)
		want[i].Value = "new"
		expectMerge(t, rising(16), pairs(p.Name+"=new"), want, api.OK)
		expectMerge(t, pairs(p.Name+"=new"), rising(16), rising(16), api.OK)
	}
	for _, bad := range noLabels {
		for _, l := range [][]api.Pair{nil, pairs("a=1"), pairs("b=2", "c=4"), rising(16)} {
			expectMerge(t, bad, l, l, api.OK)
			expectMerge(t, l, bad, l, api.OK)
		}
		expectMerge(t, bad, bad, nil, api.OK)
		expectMerge(t, bad, noLabels[0], nil, api.OK)
	}
}

// P3.3

func TestCompare(t *testing.T) {
	order := [][]api.Pair{
		nil,
		pairs("A=9", "b=9"), pairs("_=9"),
		pairs("a="), pairs("a=", "b=9"), pairs("a=\x00"), pairs("a=\x00\x00"), pairs("a=0"), pairs("a=09"),
		pairs("a=1"), pairs("a=1", "aa=1"), pairs("a=1", "b="), pairs("a=1", "b=1"), pairs("a=1", "b=1", "c=1"), pairs("a=1", "b=2"), pairs("a=1", "ba=0"), pairs("a=1", "c=0"),
		pairs("a=10"), pairs("a=2"), pairs("a=9"), pairs("a=A"), pairs("a=a"), pairs("a=aa"), pairs("a=b"), pairs("a=\x7f"), pairs("a=\x80"), pairs("a=é"), pairs("a=\xff"), pairs("a=" + strings.Repeat("\xff", 64)),
		pairs("a0=0"), pairs("aA=0"), pairs("a_=0"), pairs("aa=0"), pairs("ab=0"),
		rising(16)[1:15], rising(16)[1:], pairs("b=2"), pairs("c="), pairs(text64[1:] + "=1"), pairs(text64 + "=1"), pairs("z=0"),
	}
	for i, a := range order {
		for k, b := range order {
			want := 0
			if i < k {
				want = -1
			} else if i > k {
				want = 1
			}
			expectCompare(t, a, b, want)
		}
	}
	expectCompare(t, rising(16), rising(16), 0)
	expectCompare(t, rising(15), rising(16), -1)
	expectCompare(t, rising(16), rising(15), 1)
	last := rising(16)
	last[15].Value = "0"
	expectCompare(t, last, rising(16), -1)
	expectCompare(t, rising(16), last, 1)
	expectCompare(t, nil, []api.Pair{}, 0)
	for _, bad := range noLabels {
		for _, l := range order {
			want := -1
			if len(l) == 0 {
				want = 0
			}
			expectCompare(t, bad, l, want)
			expectCompare(t, l, bad, -want)
		}
		for _, other := range noLabels {
			expectCompare(t, bad, other, 0)
		}
	}
}

// P3.4: what is made is made once, and the pairs' order does not matter.
func TestMadeOnce(t *testing.T) {
	r := rand.New(rand.NewSource(2))
	for n := range 17 {
		for range 100 {
			l := rising(26)[:n]
			for i := range l {
				l[i].Name = strings.Repeat(l[i].Name, 1+r.Intn(3))
				l[i].Value = fmt.Sprint(r.Intn(3))
			}
			want, e := label.Make(l)
			if e != api.OK || !label.Sane(want) {
				t.Fatalf("Make(%q) is %q, %v", l, want, e)
			}
			expectMake(t, want, want, api.OK)
			r.Shuffle(n, func(i, k int) { l[i], l[k] = l[k], l[i] })
			expectMake(t, l, want, api.OK)
			got, _ := label.Make(l)
			expectCompare(t, got, want, 0)
		}
	}
}

// All calls hold against a model, at all lists of few pairs, each with each.
func TestAsTheModel(t *testing.T) {
	pool := pairs("a=", "a=1", "aa=1", "B=2", "1=1", "b="+text65)
	lists := [][]api.Pair{nil}
	for from := 0; len(lists) < 1+6+36+216; from++ {
		for _, p := range pool {
			lists = append(lists, append(slices.Clone(lists[from]), p))
		}
	}
	for _, a := range lists {
		expectAsModel(t, a, nil)
		for _, b := range lists {
			expectPairAsModel(t, a, b)
		}
	}
}

// And at lists of any length up to what is too long.
func TestLongAsTheModel(t *testing.T) {
	r := rand.New(rand.NewSource(3))
	some := func() []api.Pair {
		l := rising(26)
		r.Shuffle(26, func(i, k int) { l[i], l[k] = l[k], l[i] })
		l = l[:r.Intn(20)]
		sort.Slice(l, func(i, k int) bool { return l[i].Name < l[k].Name })
		if r.Intn(4) == 0 && len(l) > 0 {
			l[r.Intn(len(l))] = api.Pair{Name: lower[r.Intn(26):][:1], Value: "other"}
		}
		return l
	}
	for range 1000 {
		a, b := some(), some()
		expectAsModel(t, a, b)
		expectPairAsModel(t, a, b)
	}
}

// P1: no arguments make a call panic, or go on for ever. Lists are written name=value,name=value.
func FuzzCalls(f *testing.F) {
	f.Add("", "")
	f.Add("a=1,b=2", "b=3,c=4")
	f.Add("b=1,a=2", "a=1,a=2")
	f.Add("1=,=,\xff=\xff", "a="+text65)
	f.Add("a,b,c,d,e,f,g,h,i,j,k,l,m,n,o,p", "q")
	f.Add("a,b,c,d,e,f,g,h,i,j,k,l,m,n,o,p,q", "a,aa,A,_")
	f.Fuzz(func(t *testing.T, s, u string) {
		a, b := pairs(strings.Split(s, ",")...), pairs(strings.Split(u, ",")...)
		expectAsModel(t, a, b)
		expectPairAsModel(t, a, b)
	})
}

func expectName(t *testing.T, s string, want bool) {
	t.Helper()
	if got := label.Name(s); got != want {
		t.Errorf("Name(%.80q) is %v", s, got)
	}
}

func expectMake(t *testing.T, l, want []api.Pair, e api.Errno) {
	t.Helper()
	l, unchanged := watch(t, l)
	got, gotE := label.Make(l)
	expectList(t, got, gotE, want, e, "Make(%.200q)", l)
	unchanged()
}

func expectGet(t *testing.T, l []api.Pair, name, want string, ok bool) {
	t.Helper()
	l, unchanged := watch(t, l)
	if got, gotOk := label.Get(l, name); got != want || gotOk != ok {
		t.Errorf("Get(%.200q, %.80q) is %q, %v, not %q, %v", l, name, got, gotOk, want, ok)
	}
	unchanged()
}

func expectWith(t *testing.T, l []api.Pair, name, value string, want []api.Pair, e api.Errno) {
	t.Helper()
	l, unchanged := watch(t, l)
	got, gotE := label.With(l, name, value)
	expectList(t, got, gotE, want, e, "With(%.200q, %.80q, %.80q)", l, name, value)
	unchanged()
}

func expectWithout(t *testing.T, l []api.Pair, name string, want []api.Pair) {
	t.Helper()
	l, unchanged := watch(t, l)
	expectList(t, label.Without(l, name), api.OK, want, api.OK, "Without(%.200q, %.80q)", l, name)
	unchanged()
}

func expectMerge(t *testing.T, a, b, want []api.Pair, e api.Errno) {
	t.Helper()
	a, unchangedA := watch(t, a)
	b, unchangedB := watch(t, b)
	got, gotE := label.Merge(a, b)
	expectList(t, got, gotE, want, e, "Merge(%.200q, %.200q)", a, b)
	unchangedA()
	unchangedB()
}

func expectCompare(t *testing.T, a, b []api.Pair, want int) {
	t.Helper()
	a, unchangedA := watch(t, a)
	b, unchangedB := watch(t, b)
	if got := label.Compare(a, b); got != want {
		t.Errorf("Compare(%.200q, %.200q) is %d, not %d", a, b, got, want)
	}
	unchangedA()
	unchangedB()
}

// expectList makes the call's text of its form and its arguments only where it is to be told.
func expectList(t *testing.T, got []api.Pair, gotE api.Errno, want []api.Pair, e api.Errno, call string, args ...any) {
	t.Helper()
	if gotE != e || !slices.Equal(got, want) {
		t.Errorf("%s is %q, %v, not %q, %v", fmt.Sprintf(call, args...), got, gotE, want, e)
	}
}

// watch gives a copy of l to hand in, with room behind it, and what asks in the end whether it, or the room, was changed.
func watch(t *testing.T, l []api.Pair) ([]api.Pair, func()) {
	t.Helper()
	whole := append(slices.Clone(l), pairs("behind=1", "behind=2", "behind=3")...)
	before := slices.Clone(whole)
	return whole[:len(l)], func() {
		t.Helper()
		if !slices.Equal(whole, before) {
			t.Errorf("%.200q, which was handed in, was changed to %.200q", before, whole)
		}
	}
}

var nameForm = regexp.MustCompile(`^[A-Za-z_][A-Za-z0-9_]{0,63}$`)

// modelMake is P3.1's Make, by a regular expression and by the library's sort.
func modelMake(l []api.Pair) ([]api.Pair, api.Errno) {
	long, misnamed, values := len(l) > 16, false, map[string]string{}
	for _, p := range l {
		long = long || len(p.Value) > 64
		misnamed = misnamed || !nameForm.MatchString(p.Name)
		values[p.Name] = p.Value
	}
	switch {
	case long:
		return nil, api.ErrLarge
	case misnamed:
		return nil, api.ErrName
	case len(values) != len(l):
		return nil, api.ErrTwice
	}
	return listed(values), api.OK
}

// modelValues are the values of labels by their names; none, if l are no labels.
func modelValues(l []api.Pair) map[string]string {
	values := map[string]string{}
	if modelSane(l) {
		for _, p := range l {
			values[p.Name] = p.Value
		}
	}
	return values
}

func modelSane(l []api.Pair) bool {
	made, e := modelMake(l)
	return e == api.OK && slices.Equal(made, l)
}

func listed(values map[string]string) []api.Pair {
	var l []api.Pair
	for name, value := range values {
		l = append(l, api.Pair{Name: name, Value: value})
	}
	sort.Slice(l, func(i, k int) bool { return l[i].Name < l[k].Name })
	return l
}

// flat are names and values by turns: labels are compared as these texts are.
func flat(values map[string]string) []string {
	var texts []string
	for _, p := range listed(values) {
		texts = append(texts, p.Name, p.Value)
	}
	return texts
}

// expectAsModel asks all calls that take one list, with the names and values of both lists and with some others.
func expectAsModel(t *testing.T, l, others []api.Pair) {
	t.Helper()
	if label.Sane(l) != modelSane(l) {
		t.Errorf("Sane(%.200q) is %v", l, !modelSane(l))
	}
	want, e := modelMake(l)
	expectMake(t, l, want, e)
	for _, p := range slices.Concat(l, others, pairs("=", "a=9", "ab=9", "é=9", "c="+text65)) {
		expectName(t, p.Name, nameForm.MatchString(p.Name))
		value, ok := modelValues(l)[p.Name]
		expectGet(t, l, p.Name, value, ok)
		rest := modelValues(l)
		delete(rest, p.Name)
		expectWithout(t, l, p.Name, listed(rest))
		want, e := modelMake(append(listed(rest), p))
		expectWith(t, l, p.Name, p.Value, want, e)
	}
}

// expectPairAsModel asks the calls that take two lists.
func expectPairAsModel(t *testing.T, a, b []api.Pair) {
	t.Helper()
	all := modelValues(a)
	for name, value := range modelValues(b) {
		all[name] = value
	}
	want, e := modelMake(listed(all))
	expectMerge(t, a, b, want, e)
	expectCompare(t, a, b, slices.Compare(flat(modelValues(a)), flat(modelValues(b))))
}
