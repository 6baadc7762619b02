package cond_test

import (
	"cmp"
	"fmt"
	"math"
	"math/rand"
	"slices"
	"strings"
	"testing"

	"watchtower/api"
	"watchtower/cond"
	"watchtower/lex"
	"watchtower/num"
	"watchtower/sel"
)

func word(s string) api.Token   { return api.Token{K: api.Word, S: s} }
func number(s string) api.Token { return api.Token{K: api.Number, S: s} }
func text(s string) api.Token   { return api.Token{K: api.Text, S: s} }
func sign(s string) api.Token   { return api.Token{K: api.Sign, S: s} }

func is(name, value string) api.Match  { return api.Match{Name: name, Value: value} }
func not(name, value string) api.Match { return api.Match{Name: name, Value: value, Not: true} }

func selector(name string, m ...api.Match) api.Sel { return api.Sel{Name: name, M: m} }

func asks(s api.Sel, op, v int) api.Expr { return api.Expr{S: s, Op: op, V: v} }

// opSigns are the ops, and their signs.
var opSigns = map[int]string{1: ">", 2: ">=", 3: "<", 4: "<=", 5: "==", 6: "!="}

// noOps are just beyond the ops, and as far off as an int goes; some have an op in their lowest bits.
var noOps = []int{0, -1, -2, -3, -6, -7, 7, 8, 9, 16, 100, 255, 256, 257, 1<<16 + 1, 1 << 32, 1<<32 + 1, 1<<32 + 6, -1<<32 + 2, math.MinInt32, math.MaxInt32, math.MinInt, math.MinInt + 1, math.MaxInt, math.MaxInt - 1}

// numbers have their texts.
var numbers = map[int]string{
	0: "0", 1: "0.001", -1: "-0.001", 20: "0.02", 300: "0.3", -300: "-0.3", 999: "0.999", 1000: "1", -1000: "-1", 1500: "1.5", -1500: "-1.5", 2000: "2", 12345: "12.345", -120300: "-120.3", 10000000: "10000",
	1<<53 - 1: "9007199254740.991", 1 << 53: "9007199254740.992", -1<<53 + 1: "-9007199254740.991", -1 << 53: "-9007199254740.992",
}

// noNumbers are just beyond the bounds of a number, and as far off as an int goes.
var noNumbers = []int{1<<53 + 1, -1<<53 - 1, 1<<53 + 2, 1 << 54, -1 << 54, 1<<62 + 1, math.MaxInt, math.MaxInt - 1, math.MinInt, math.MinInt + 1}

var (
	longest = strings.Repeat("x", 64)
	longer  = strings.Repeat("x", 65)
	// sels are selectors with and without matches, and their texts.
	sels = []struct {
		s       api.Sel
		printed string
	}{
		{selector("up"), `up`},
		{selector("_"), `_`},
		{selector("for"), `for`},
		{selector(longest), longest},
		{selector("up", is("a", "1")), `up{a="1"}`},
		{selector("up", not("a", "")), `up{a!=""}`},
		{selector("Up", is("job", "a"), not("x", "b")), `Up{job="a",x!="b"}`},
		{selector("up", is("a", "> 1"), not("b", "("), is("c", ")")), `up{a="> 1",b!="(",c=")"}`},
		{selector("up", is("a", "\"\\\n#")), `up{a="\"\\\n#"}`},
		{selector("up", not(longest, longest)), `up{` + longest + `!="` + longest + `"}`},
		{selector("up", is("a", ""), is("a", "1"), is("a", "2"), is("a", "3"), not("a", ""), not("a", "1"), not("a", "2"), not("a", "3")), `up{a="",a="1",a="2",a="3",a!="",a!="1",a!="2",a!="3"}`},
	}
	// noSels are wrong in their names, in a match's, in a value, and by how many matches they have.
	noSels = []api.Sel{
		{}, selector("1"), selector("a b"), selector(longer), selector("é"), selector("up "), selector("", is("a", "1")),
		selector("up", is("", "1")), selector("up", is("1", "1")), selector("up", not("a-b", "1")), selector("up", is("a", "1"), not(longer, "")),
		selector("up", is("a", longer)), selector("up", is("a", "1"), not("b", longer)),
		selector("up", slices.Repeat([]api.Match{is("a", "1")}, 9)...), selector("up", slices.Repeat([]api.Match{not("a", "1")}, 1<<12)...),
	}
)

// P9.1

func TestSane(t *testing.T) {
	for _, x := range sels {
		for op := range opSigns {
			for v := range numbers {
				expectSane(t, asks(x.s, op, v), true)
			}
		}
	}
}

func TestSaneOfNoSelector(t *testing.T) {
	for _, s := range noSels {
		for op := range opSigns {
			expectSane(t, asks(s, op, 0), false)
			expectSane(t, asks(s, op, 2000), false)
		}
	}
	expectSane(t, api.Expr{}, false)
}

func TestSaneOfNoOp(t *testing.T) {
	for _, x := range sels {
		for _, op := range noOps {
			expectSane(t, asks(x.s, op, 0), false)
			expectSane(t, asks(x.s, op, -1500), false)
		}
	}
	for op := -1000; op <= 1000; op++ {
		expectSane(t, asks(selector("up"), op, 1000), 1 <= op && op <= 6)
	}
}

func TestSaneOfNoNumber(t *testing.T) {
	for _, x := range sels {
		for _, v := range noNumbers {
			for op := range opSigns {
				expectSane(t, asks(x.s, op, v), false)
			}
		}
	}
	for d := -3; d <= 3; d++ {
		expectSane(t, asks(selector("up"), api.More, 1<<53+d), d <= 0)
		expectSane(t, asks(selector("up"), api.More, -1<<53+d), d >= 0)
	}
}

// held are the ops that hold, by how a value stands to a threshold.
var held = map[int][]int{
	-1: {api.Less, api.LessSame, api.NotEqual},
	0:  {api.MoreSame, api.LessSame, api.Equal},
	1:  {api.More, api.MoreSame, api.NotEqual},
}

// ints are of all sizes, many of them one apart.
var ints = []int{math.MinInt, math.MinInt + 1, math.MinInt32, -1<<53 - 1, -1 << 53, -2001, -2000, -1500, -2, -1, 0, 1, 2, 1500, 2000, 2001, 1 << 32, 1 << 53, 1<<53 + 1, math.MaxInt - 1, math.MaxInt}

func TestHolds(t *testing.T) {
	for _, v := range ints {
		for _, threshold := range ints {
			for op := range opSigns {
				want := slices.Contains(held[cmp.Compare(v, threshold)], op)
				if got := cond.Holds(op, v, threshold); got != want {
					t.Errorf("Holds of %d %s %d is %v", v, opSigns[op], threshold, got)
				}
			}
		}
	}
}

func TestHoldsOfNoOp(t *testing.T) {
	for _, op := range noOps {
		for _, v := range ints {
			for _, threshold := range ints {
				if cond.Holds(op, v, threshold) {
					t.Errorf("Holds of %d, %d, %d", op, v, threshold)
				}
			}
		}
	}
}

func TestNot(t *testing.T) {
	for op, want := range map[int]int{api.More: api.LessSame, api.MoreSame: api.Less, api.Less: api.MoreSame, api.LessSame: api.More, api.Equal: api.NotEqual, api.NotEqual: api.Equal} {
		if got := cond.Not(op); got != want {
			t.Errorf("Not of %s is %d, not %s", opSigns[op], got, opSigns[want])
		}
	}
	for _, op := range noOps {
		if got := cond.Not(op); got != 0 {
			t.Errorf("Not of %d is %d", op, got)
		}
	}
	for op := -1000; op <= 1000; op++ {
		if got := cond.Not(op); got != 0 && (op < 1 || op > 6) {
			t.Errorf("Not of %d is %d", op, got)
		}
	}
}

// TestNotHoldsElsewhere: of an op and its Not always just one holds, and they are each other's.
func TestNotHoldsElsewhere(t *testing.T) {
	for op := range opSigns {
		if got := cond.Not(cond.Not(op)); got != op {
			t.Errorf("Not of Not of %d is %d", op, got)
		}
		for _, v := range ints {
			for _, threshold := range ints {
				if cond.Holds(op, v, threshold) == cond.Holds(cond.Not(op), v, threshold) {
					t.Errorf("%d and its Not hold both, or none of them does, of %d and %d", op, v, threshold)
				}
			}
		}
	}
}

// P9.2

func TestPrint(t *testing.T) {
	for _, x := range sels {
		for op, between := range opSigns {
			for v, digits := range numbers {
				expectPrint(t, asks(x.s, op, v), x.printed+" "+between+" "+digits)
			}
		}
	}
}

func TestPrintOfInsane(t *testing.T) {
	for _, s := range noSels {
		for op := range opSigns {
			expectPrint(t, asks(s, op, 1000), "")
		}
	}
	for _, x := range sels {
		for _, op := range noOps {
			expectPrint(t, asks(x.s, op, 1000), "")
		}
		for _, v := range noNumbers {
			for op := range opSigns {
				expectPrint(t, asks(x.s, op, v), "")
			}
		}
	}
	expectPrint(t, api.Expr{}, "")
	expectPrint(t, asks(selector("1"), 7, math.MaxInt), "")
}

// P9.3

func TestExample(t *testing.T) {
	expectText(t, "((up>=2))", asks(selector("up"), 2, 2000), 7)
}

func TestParse(t *testing.T) {
	for s, want := range map[string]api.Expr{
		`up > 1`:                             asks(selector("up"), api.More, 1000),
		`up>=1`:                              asks(selector("up"), api.MoreSame, 1000),
		`up<1`:                               asks(selector("up"), api.Less, 1000),
		`up <= 1`:                            asks(selector("up"), api.LessSame, 1000),
		`up ==1`:                             asks(selector("up"), api.Equal, 1000),
		`up!=1`:                              asks(selector("up"), api.NotEqual, 1000),
		`up == 0`:                            asks(selector("up"), api.Equal, 0),
		`up == -0`:                           asks(selector("up"), api.Equal, 0),
		`up>-1.5`:                            asks(selector("up"), api.More, -1500),
		`up<007.50`:                          asks(selector("up"), api.Less, 7500),
		`up{}<0.001`:                         asks(selector("up"), api.Less, 1),
		`up{a="1"}>=-2`:                      asks(selector("up", is("a", "1")), api.MoreSame, -2000),
		`up{a="1",b!="x"}!=12.345`:           asks(selector("up", is("a", "1"), not("b", "x")), api.NotEqual, 12345),
		"up # x\n{ a\t=\r\"1\" }\n>=\n2 # y": asks(selector("up", is("a", "1")), api.MoreSame, 2000),
		`up<=9007199254740.992`:              asks(selector("up"), api.LessSame, 1<<53),
		`up<=-9007199254740.992`:             asks(selector("up"), api.LessSame, -1<<53),
		`up<=` + strings.Repeat("0", 1000) + `9.5`: asks(selector("up"), api.LessSame, 9500),
		`up{a="(",b=")",c="> 1"} > 2`:              asks(selector("up", is("a", "("), is("b", ")"), is("c", "> 1")), api.More, 2000),
		`rule{keep="for"} == 3`:                    asks(selector("rule", is("keep", "for")), api.Equal, 3000),
		longest + `{` + longest + `!=""} > 1`:      asks(selector(longest, not(longest, "")), api.More, 1000),
	} {
		size := len(tokens(t, s))
		expectText(t, s, want, size)
		expectText(t, "(#\n"+s+"#\n)", want, size+2)
		expectText(t, "( ("+s+"\n))", want, size+4)
	}
}

// TestParsePlaces: at an i that is none, and at each i of some tokens, with others ahead and behind.
func TestParsePlaces(t *testing.T) {
	few := tokens(t, "(up>1)")
	for _, l := range [][]api.Token{nil, {}, {word("a")}, {sign("(")}, few[1:4], few} {
		for _, i := range []int{-1, -2, -33, -len(l) - 1, math.MinInt, math.MinInt + 1, math.MinInt32} {
			expectError(t, l, i, 0, api.ErrShort)
		}
		for _, i := range []int{len(l), len(l) + 1, len(l) + 2, len(l) + 33, math.MaxInt, math.MaxInt - 1, math.MaxInt32, 1 << 32} {
			expectError(t, l, i, len(l), api.ErrShort)
		}
	}
	l := tokens(t, `a > 1 ( b{c="2"} <= -3 ) ((d!=4)) e==5;`)
	found := map[int]struct {
		x  api.Expr
		at int
	}{
		0:  {asks(selector("a"), api.More, 1000), 3},
		3:  {asks(selector("b", is("c", "2")), api.LessSame, -3000), 13},
		4:  {asks(selector("b", is("c", "2")), api.LessSame, -3000), 12},
		13: {asks(selector("d"), api.NotEqual, 4000), 20},
		14: {asks(selector("d"), api.NotEqual, 4000), 19},
		15: {asks(selector("d"), api.NotEqual, 4000), 18},
		20: {asks(selector("e"), api.Equal, 5000), 23},
	}
	for i := range l {
		switch want, there := found[i]; {
		case there:
			expectParse(t, l, i, want.x, want.at, api.OK)
		case i == 6: // c, which is a selector
			expectError(t, l, i, i+1, api.ErrForm)
		default:
			expectError(t, l, i, i, api.ErrForm)
		}
	}
}

// TestParseBehind: whatever stands behind what is asked does not matter, nor does what stands ahead.
func TestParseBehind(t *testing.T) {
	for _, n := range []int{0, 1, 2, 32} {
		for _, s := range []api.Sel{selector("up"), selector("up", is("a", "1"))} {
			want := asks(s, api.More, 1000)
			l := within(n, tokens(t, cond.Print(want)))
			for _, x := range manyTokens() {
				expectParse(t, append(slices.Clone(l), x), 0, want, len(l), api.OK)
				expectParse(t, slices.Concat([]api.Token{x, x}, l, []api.Token{x, x}), 2, want, len(l)+2, api.OK)
			}
		}
	}
}

// TestParseWithin: 32 signs ( may be open, and a ) that is one too many stands behind.
func TestParseWithin(t *testing.T) {
	want := asks(selector("up", not("a", "")), api.Less, -20)
	bare := tokens(t, cond.Print(want))
	for n := range 33 {
		l := within(n, bare)
		expectParse(t, l, 0, want, len(l), api.OK)
		expectParse(t, append(slices.Clone(l), sign(")")), 0, want, len(l), api.OK)
		expectParse(t, append(slices.Clone(l), sign(")"), sign(")"), sign("(")), 0, want, len(l), api.OK)
		for i := range n + 1 {
			expectParse(t, l, i, want, len(l)-i, api.OK)
		}
	}
	// those behind what is asked open nothing, nor do those of another question
	expectText(t, "(up>1)(((up>1", asks(selector("up"), api.More, 1000), 5)
	expectText(t, "((up>1))"+strings.Repeat("(", 40), asks(selector("up"), api.More, 1000), 7)
}

// TestParseTooDeep: the 33rd sign ( is told at its place, whatever stands behind it.
func TestParseTooDeep(t *testing.T) {
	bare := tokens(t, "up > 1")
	for _, n := range []int{33, 34, 35, 64, 65, 66, 1000, 1 << 16} {
		open := slices.Repeat([]api.Token{sign("(")}, n)
		for _, l := range [][]api.Token{within(n, bare), open, slices.Concat(open, bare), append(slices.Clone(open), text("")), append(slices.Clone(open), sign(")"))} {
			expectError(t, l, 0, 32, api.ErrDeep)
			expectError(t, slices.Concat(bare, l), 3, 35, api.ErrDeep)
			expectError(t, l, n-33, n-1, api.ErrDeep)
		}
		expectParse(t, within(n, bare), n-32, asks(selector("up"), api.More, 1000), n+35, api.OK)
	}
	expectError(t, slices.Repeat([]api.Token{sign("(")}, 32), 0, 32, api.ErrShort)
	expectError(t, append(slices.Repeat([]api.Token{sign("(")}, 32), sign(")")), 0, 32, api.ErrForm)
}

// TestParseMissing: of each sign ( that is open a sign ) is wanted.
func TestParseMissing(t *testing.T) {
	bare := tokens(t, `up{a="1"} > 1`)
	for n := 1; n <= 32; n++ {
		for closed := range n {
			l := within(n, bare)[:n+len(bare)+closed]
			expectError(t, l, 0, len(l), api.ErrShort)
			expectError(t, slices.Concat(bare, l), len(bare), len(bare)+len(l), api.ErrShort)
			for _, x := range manyTokens() {
				if x != sign(")") {
					expectError(t, append(slices.Clone(l), x), 0, len(l), api.ErrForm)
					expectError(t, append(slices.Clone(l), x, sign(")"), x), 0, len(l), api.ErrForm)
				}
			}
		}
	}
}

// TestParseSelectors: what is wrong with a selector is told at its place, within and without signs (.
func TestParseSelectors(t *testing.T) {
	nine := "up{" + strings.Repeat(`a="1",`, 8)
	for _, x := range []struct {
		s  string
		at int
		e  api.Errno
	}{
		{``, 0, api.ErrShort}, {`1`, 0, api.ErrForm}, {`1 > up`, 0, api.ErrForm}, {`"up" > 1`, 0, api.ErrForm}, {`> 1`, 0, api.ErrForm}, {`{}`, 0, api.ErrForm}, {`)`, 0, api.ErrForm}, {`{a="1"} > 1`, 0, api.ErrForm},
		{longer, 0, api.ErrName}, {longer + ` > 1`, 0, api.ErrName}, {longer + `{} > 1`, 0, api.ErrName},
		{`up{`, 2, api.ErrShort}, {`up{,} > 1`, 2, api.ErrForm}, {`up{> 1`, 2, api.ErrForm}, {`up{(`, 2, api.ErrForm}, {`up{` + longer + `="1"} > 1`, 2, api.ErrName},
		{`up{a`, 3, api.ErrShort}, {`up{a} > 1`, 3, api.ErrForm}, {`up{a>"1"} > 1`, 3, api.ErrForm}, {`up{a=="1"} > 1`, 3, api.ErrForm},
		{`up{a=`, 4, api.ErrShort}, {`up{a=1} > 1`, 4, api.ErrForm}, {`up{a!=b} > 1`, 4, api.ErrForm}, {`up{a="` + longer + `"} > 1`, 4, api.ErrLarge},
		{`up{a="1"`, 5, api.ErrShort}, {`up{a="1" > 1`, 5, api.ErrForm}, {`up{a="1")`, 5, api.ErrForm}, {`up{a="1",`, 6, api.ErrShort}, {`up{a="1",} > 1`, 6, api.ErrForm}, {`up{a="1",` + longer + `=""} > 1`, 6, api.ErrName},
		{nine + `a="1"} > 1`, 36, api.ErrLarge}, {nine + `a!="` + longer + `"} > 1`, 36, api.ErrLarge}, {nine + `} > 1`, 34, api.ErrForm}, {nine, 34, api.ErrShort},
	} {
		expectErrorWithin(t, tokens(t, x.s), x.at, x.e)
	}
	for _, x := range manyTokens() {
		if x.K != api.Word && x != sign("(") {
			expectErrorWithin(t, []api.Token{x, sign(">"), number("1")}, 0, api.ErrForm)
		}
	}
	for _, name := range []string{"", "1", "1a", "a b", "é", ">", "(", longer} {
		expectErrorWithin(t, []api.Token{word(name), sign(">"), number("1")}, 0, api.ErrName)
	}
}

// TestParseOps: each of the six signs is an op, and no other token is, whatever its text.
func TestParseOps(t *testing.T) {
	for op, s := range opSigns {
		for n := range 33 {
			l := within(n, []api.Token{word("up"), sign(s), number("1")})
			expectParse(t, l, 0, asks(selector("up"), op, 1000), len(l), api.OK)
		}
	}
	isOp := func(x api.Token) bool {
		return x.K == api.Sign && slices.Contains([]string{">", ">=", "<", "<=", "==", "!="}, x.S)
	}
	for _, x := range manyTokens() {
		if isOp(x) {
			continue
		}
		if x != sign("{") {
			expectErrorWithin(t, []api.Token{word("up"), x, number("1")}, 1, api.ErrForm)
			expectErrorWithin(t, []api.Token{word("up"), x}, 1, api.ErrForm)
		}
		expectErrorWithin(t, []api.Token{word("up"), sign("{"), sign("}"), x, number("1")}, 3, api.ErrForm)
		expectErrorWithin(t, append(tokens(t, `up{a="1",b!=""}`), x, number("1")), 10, api.ErrForm)
	}
	for _, s := range []string{"up = 1", "up 1", "up", "up > = 1"} {
		expectAsModel(t, tokens(t, s), 0)
	}
	expectErrorWithin(t, tokens(t, "up = 1"), 1, api.ErrForm)
	expectErrorWithin(t, tokens(t, "up = = 1"), 1, api.ErrForm)
	expectErrorWithin(t, tokens(t, "up -1"), 1, api.ErrForm)
	expectErrorWithin(t, tokens(t, "up(> 1)"), 1, api.ErrForm)
	expectErrorWithin(t, tokens(t, "up{}{} > 1"), 3, api.ErrForm)
}

// TestParseNumbers: behind an op a Number is wanted, which num.Parse takes.
func TestParseNumbers(t *testing.T) {
	for op, s := range opSigns {
		for _, x := range manyTokens() {
			if x.K != api.Number {
				expectErrorWithin(t, []api.Token{word("up"), sign(s), x}, 2, api.ErrForm)
				expectErrorWithin(t, []api.Token{word("up"), sign(s), x, number("1")}, 2, api.ErrForm)
			}
		}
		for v, digits := range numbers {
			expectParse(t, []api.Token{word("up"), sign(s), number(digits)}, 0, asks(selector("up"), op, v), 3, api.OK)
		}
		for e, list := range map[api.Errno][]string{
			api.ErrForm:  {"", "-", ".", "1.", "1..2", "1.2345", "1s", "1ms", "5m", "-1h", "1e3", "0x10", "1_000", "--1", "+1", " 1", "1 ", "a", "é", "١", "1\x00", "99999999999999999999s", "1.2.3", ">"},
			api.ErrRange: {"9007199254740.993", "-9007199254740.993", "9007199254741", "-9007199254741", "9223372036854775807", "18446744073709551616", "-" + strings.Repeat("9", 1000), strings.Repeat("9", 1000) + ".999"},
		} {
			for _, digits := range list {
				expectErrorWithin(t, []api.Token{word("up"), sign(s), number(digits)}, 2, e)
				expectErrorWithin(t, append(tokens(t, `up{a="1"}`), sign(s), number(digits), text("")), 7, e)
			}
		}
	}
	expectErrorWithin(t, tokens(t, "up > > 1"), 2, api.ErrForm)
	expectErrorWithin(t, tokens(t, "up > up"), 2, api.ErrForm)
	expectErrorWithin(t, tokens(t, "up > (1)"), 2, api.ErrForm)
	expectErrorWithin(t, tokens(t, "up > 5m"), 2, api.ErrForm)
}

// TestParseEnds: behind each token of a question, but the last one, more is wanted.
func TestParseEnds(t *testing.T) {
	for _, s := range []string{"up > 1", "up{} > 1", `up{a="1"} == 0`, `up{a="1",b!="2"} <= -1.5`} {
		for n := range 33 {
			l := within(n, tokens(t, s))
			for size := range len(l) {
				expectError(t, l[:size], 0, size, api.ErrShort)
				expectError(t, slices.Concat([]api.Token{sign(")")}, l[:size]), 1, size+1, api.ErrShort)
			}
		}
	}
}

// TestParseFirstError: of two things that are wrong the one that is read first is told.
func TestParseFirstError(t *testing.T) {
	for _, x := range []struct {
		s  string
		at int
		e  api.Errno
	}{
		{longer + ` = 1s`, 0, api.ErrName}, {longer + ` > 1s`, 0, api.ErrName}, {`up{a="` + longer + `"} = 1`, 4, api.ErrLarge}, {`up{a="1"] = 1`, 5, api.ErrShort},
		{`up = 1s`, 1, api.ErrForm}, {`up = 9007199254741`, 1, api.ErrForm}, {`up > 1s]`, 2, api.ErrForm}, {`up > 9007199254741 x`, 2, api.ErrRange},
	} {
		l, _, _ := lex.All(x.s)
		expectErrorWithin(t, l, x.at, x.e)
	}
	expectError(t, tokens(t, "(up > 9007199254741"), 0, 3, api.ErrRange)
	expectError(t, tokens(t, "(up > 9007199254741("), 0, 3, api.ErrRange)
	expectError(t, tokens(t, "(up = 1("), 0, 2, api.ErrForm)
	expectError(t, tokens(t, strings.Repeat("(", 33)+"up = 1"), 0, 32, api.ErrDeep)
	expectError(t, tokens(t, "1"+strings.Repeat("(", 33)), 0, 0, api.ErrForm)
}

// TestParseKinds: a token's kind and its text count, and its place does not.
func TestParseKinds(t *testing.T) {
	want := asks(selector("up", is("a", "1")), api.NotEqual, -1500)
	l := within(2, tokens(t, cond.Print(want)))
	for _, at := range []int{0, 7, -1, math.MinInt, math.MaxInt} {
		placed := slices.Clone(l)
		for i := range placed {
			placed[i].At = at * (i + 1)
		}
		expectParse(t, placed, 0, want, len(l), api.OK)
		placed[8].S = "="
		expectError(t, placed, 0, 8, api.ErrForm)
		expectError(t, placed[:8], 1, 8, api.ErrShort)
	}
	for i := range l {
		for _, k := range []int{0, -1, 1, 2, 3, 4, 5, 8, 256 + 1, 256 + 2, 256 + 4, 1<<32 + 4, math.MinInt, math.MaxInt} {
			if k == l[i].K {
				continue
			}
			changed := slices.Clone(l)
			changed[i].K = k
			e := api.ErrForm
			if k == api.Word && i < 2 {
				e = api.ErrName // a sign ( as a word is what a selector would begin with
			}
			expectError(t, changed, 0, i, e)
			expectAsModel(t, changed, 0)
		}
		for _, s := range []string{"", "((", "))", "()", "( ", " (", "!", "=", "! =", "=!", "!==", ">==", "<>", "><", "=>", "=<", "≠", "≥", "(\x00", ")\x00", "!=\x00"} {
			changed := slices.Clone(l)
			changed[i].S = s
			expectAsModel(t, changed, 0)
			if l[i].K == api.Sign && i != 5 { // 5 is the = of the match
				expectError(t, changed, 0, i, api.ErrForm)
			}
		}
	}
	for _, x := range []api.Token{{}, {K: 5, S: "("}, {K: 0, S: "("}, {K: -4, S: "("}, text("("), number("("), {K: 0, S: "up"}} {
		expectErrorWithin(t, []api.Token{x, word("up"), sign(">"), number("1"), sign(")")}, 0, api.ErrForm)
	}
}

// TestParseAll: every list of up to four of the tokens that stand for all, and every two of them behind each beginning of a question, as the model tells.
func TestParseAll(t *testing.T) {
	some := []api.Token{word("a"), word("1"), text(">"), number("1"), number("1s"), number("9007199254741"), sign("("), sign(")"), sign("{"), sign("}"), sign("="), sign(">"), sign("!="), {K: 0, S: "1"}}
	lists := [][]api.Token{nil}
	for from := 0; len(lists[from]) < 4; from++ {
		for _, x := range some {
			lists = append(lists, append(slices.Clone(lists[from]), x))
		}
	}
	for _, l := range lists {
		for i := -1; i <= len(l)+1; i++ {
			expectAsModel(t, l, i)
		}
	}
	for _, n := range []int{0, 1, 2, 3, 31, 32, 33} {
		full := within(n, tokens(t, `up{a="1"} <= 2`))
		for size := range len(full) + 1 {
			for _, x := range some {
				for _, y := range some {
					expectAsModel(t, append(slices.Clone(full[:size]), x, y), 0)
					expectAsModel(t, slices.Concat(full[:size], []api.Token{x, y}, full[size:]), 0)
				}
			}
		}
	}
}

// TestParseAnyTokens: with tokens left out, laid twice, and others laid between.
func TestParseAnyTokens(t *testing.T) {
	r := rand.New(rand.NewSource(9))
	most := manyTokens()
	for range 30000 {
		n := []int{0, 1, 2, 3, 30, 31, 32, 33, 34}[r.Intn(9)]
		l := within(n, tokens(t, cond.Print(anyExpr(r))))
		for range r.Intn(4) {
			at := r.Intn(len(l))
			switch r.Intn(4) {
			case 0:
				l = slices.Delete(l, at, at+1)
			case 1:
				l = slices.Insert(l, at, l[r.Intn(len(l))])
			case 2:
				l = slices.Insert(l, at, most[r.Intn(len(most))])
			case 3:
				l[at] = most[r.Intn(len(most))]
			}
			l = append(l, most[r.Intn(len(most))])
		}
		expectAsModel(t, l, 0)
		expectAsModel(t, l, r.Intn(len(l)+2)-1)
		expectAsModel(t, slices.Concat([]api.Token{sign("(")}, l), 1)
	}
}

// TestParseManyTokens: that they are many is no matter.
func TestParseManyTokens(t *testing.T) {
	l := slices.Repeat(tokens(t, `(up{a="1"} > 1)`), 1<<14)
	for _, i := range []int{0, 10, len(l) - 10} {
		expectParse(t, l, i, asks(selector("up", is("a", "1")), api.More, 1000), i+10, api.OK)
	}
	open := slices.Repeat([]api.Token{sign("(")}, 1<<16)
	expectError(t, open, 1<<15, 1<<15+32, api.ErrDeep)
	expectError(t, open, 1<<16-33, 1<<16-1, api.ErrDeep)
	expectError(t, open, 1<<16-32, 1<<16, api.ErrShort)
	expectError(t, slices.Repeat([]api.Token{sign(")")}, 1<<16), 1<<15, 1<<15, api.ErrForm)
}

// P9.4

func TestPrintedIsParsed(t *testing.T) {
	for _, x := range sels {
		for op := range opSigns {
			for v := range numbers {
				expectReadAgain(t, asks(x.s, op, v))
			}
		}
	}
	r := rand.New(rand.NewSource(94))
	for range 300 {
		expectReadAgain(t, anyExpr(r))
	}
}

// TestPrintedApart: no two questions have one text.
func TestPrintedApart(t *testing.T) {
	of := map[string]string{}
	for _, x := range sels {
		for op := range opSigns {
			for v := range numbers {
				printed, said := cond.Print(asks(x.s, op, v)), show(asks(x.s, op, v))
				if other, there := of[printed]; there {
					t.Errorf("%s and %s are both printed %q", said, other, printed)
				}
				of[printed] = said
			}
		}
	}
}

// R1 to R5

// TestNothingIsKept: what is asked between two calls does not matter.
func TestNothingIsKept(t *testing.T) {
	want := asks(selector("up", is("a", "1")), api.More, 1000)
	l := within(32, tokens(t, cond.Print(want)))
	for _, between := range [][]api.Token{nil, l[:20], l[:40], within(33, l), tokens(t, "(x < 2)"), tokens(t, "x < 9007199254741"), tokens(t, "((x = 1")} {
		x, _, _ := cond.Parse(between, 0)
		cond.Print(x)
		cond.Holds(cond.Not(x.Op), x.V, 1)
		expectParse(t, l, 0, want, len(l), api.OK)
		expectPrint(t, want, `up{a="1"} > 1`)
	}
}

// TestAnswersAreApart: what was answered stays as it was, whatever is laid over or behind another answer.
func TestAnswersAreApart(t *testing.T) {
	want := asks(selector("up", is("a", "1"), is("b", "2"), is("c", "3")), api.More, 1000)
	l := tokens(t, cond.Print(want))
	one, _, _ := cond.Parse(l, 0)
	two, _, _ := cond.Parse(l, 0)
	_ = append(two.S.M, is("z", "z"))
	clear(two.S.M)
	if !same(one, want) {
		t.Errorf("%s has become %s", show(want), show(one))
	}
}

// P1: no arguments make a call panic, or go on for ever; and all hold against a model.
func FuzzCalls(f *testing.F) {
	f.Add("((up>=2))", 0, "up", "job", "a", 2, 2000)
	f.Add("(a > 1) b{c=\"d\"} = 1s", 5, "1", "", "\n", 0, 1<<53)
	f.Add(strings.Repeat("(", 33)+"up > 1", -1, longest, longer, longer, 7, -1<<53-1)
	f.Fuzz(func(t *testing.T, s string, i int, name, key, value string, op, v int) {
		if len(s) > 1<<10 {
			return
		}
		l, _, _ := lex.All(s)
		expectAsModel(t, l, i)
		for at := range l {
			expectAsModel(t, l, at)
		}
		x := asks(selector(name, is(key, value)), op, v)
		for range 2 {
			if sel.Sane(x.S) && opSigns[op] != "" && num.Sane(v) {
				expectSane(t, x, true)
				expectPrint(t, x, sel.Print(x.S)+" "+opSigns[op]+" "+num.Print(v))
				expectReadAgain(t, x)
			} else {
				expectSane(t, x, false)
				expectPrint(t, x, "")
			}
			x.S.M = nil
		}
		if got, want := cond.Holds(op, v, i), slices.Contains(held[cmp.Compare(v, i)], op); got != want {
			t.Errorf("Holds of %d, %d, %d is %v", op, v, i, got)
		}
		if there := cond.Not(op); (there != 0) != (opSigns[op] != "") || there != 0 && cond.Holds(there, v, i) == cond.Holds(op, v, i) {
			t.Errorf("Not of %d is %d", op, there)
		}
	})
}

// manyTokens are of all kinds, and of none.
func manyTokens() []api.Token {
	list := []api.Token{{}, {K: 5, S: "a"}, {K: 5, S: ">"}, {K: 5, S: ")"}, {K: -1, S: "("}, {K: 0, S: "1"}, {K: 0, S: ">="}, {K: 0, S: ")"}}
	for _, s := range []string{"", "{", "}", "(", ")", ",", ":", ";", "=", "!=", "==", ">", ">=", "<", "<=", "!", "=>", "a", "1"} {
		list = append(list, sign(s), text(s), word(s), number(s))
	}
	for _, s := range []string{"for", "_", longest, longer, "é", "1s", "-1.5", "9007199254740.993"} {
		list = append(list, sign(s), text(s), word(s), number(s))
	}
	return list
}

// anyExpr is a sane one.
func anyExpr(r *rand.Rand) api.Expr {
	x := asks(sels[r.Intn(len(sels))].s, 1+r.Intn(6), r.Intn(5000)-2500)
	if r.Intn(2) == 0 {
		x.S = selector("up")
		for range r.Intn(9) {
			value := make([]byte, r.Intn(65))
			for i := range value {
				value[i] = "\"\\\nn#()> \x00\xff"[r.Intn(11)]
			}
			x.S.M = append(x.S.M, api.Match{Name: string("abc_"[r.Intn(4)]), Value: string(value), Not: r.Intn(2) == 0})
		}
	}
	if r.Intn(3) == 0 {
		x.V = r.Intn(1<<54+1) - 1<<53
	}
	return x
}

// tokens are those of a text that lex.All takes.
func tokens(t *testing.T, s string) []api.Token {
	t.Helper()
	l, _, e := lex.All(s)
	if e != api.OK {
		t.Fatalf("%q is no tokens: %v", s, e)
	}
	return l
}

// within is l between so many signs ( and ).
func within(n int, l []api.Token) []api.Token {
	return slices.Concat(slices.Repeat([]api.Token{sign("(")}, n), l, slices.Repeat([]api.Token{sign(")")}, n))
}

func same(a, b api.Expr) bool {
	return a.S.Name == b.S.Name && slices.Equal(a.S.M, b.S.M) && a.Op == b.Op && a.V == b.V
}

// show has the beginning of a long thing alone.
func show(x any) string { return fmt.Sprintf("%.300s", fmt.Sprintf("%+q", fmt.Sprint(x))) }

// expectSane asks Sane; what is handed in stays as it is, and so does the room behind it.
func expectSane(t *testing.T, x api.Expr, want bool) {
	t.Helper()
	expectUnchanged(t, x, func(x api.Expr) {
		if got := cond.Sane(x); got != want {
			t.Errorf("Sane of %s is %v", show(x), got)
		}
	})
}

// expectPrint asks Print likewise.
func expectPrint(t *testing.T, x api.Expr, want string) {
	t.Helper()
	expectUnchanged(t, x, func(x api.Expr) {
		if got := cond.Print(x); got != want {
			t.Errorf("Print of %s is %q, not %q", show(x), got, want)
		}
	})
}

// expectUnchanged asks of x, and of one with room behind its matches.
func expectUnchanged(t *testing.T, x api.Expr, ask func(api.Expr)) {
	t.Helper()
	ask(x)
	room := append(slices.Clone(x.S.M), is("behind", "room"), not("behind", "room"))
	was := slices.Clone(room)
	x.S.M = room[:len(room)-2]
	ask(x)
	if !slices.Equal(room, was) {
		t.Errorf("%s, handed in, was changed to %s", show(was), show(room))
	}
}

// expectParse asks Parse, of tokens with room behind and without; what is handed in stays as it is.
func expectParse(t *testing.T, l []api.Token, i int, want api.Expr, at int, e api.Errno) {
	t.Helper()
	room := append(slices.Clone(l), sign(")"), sign(">"), number("1"), sign(")"))
	was := slices.Clone(room)
	for _, x := range [][]api.Token{l, room[:len(l)], room[:len(l):len(l)]} {
		got, gotAt, gotE := cond.Parse(x, i)
		if !same(got, want) || gotAt != at || gotE != e {
			t.Fatalf("Parse of %s at %d is %s, %d, %v, not %s, %d, %v", show(l), i, show(got), gotAt, gotE, show(want), at, e)
		}
	}
	if !slices.Equal(room, was) {
		t.Errorf("%s, handed in, was changed to %s", show(was), show(room))
	}
}

// expectError: with an error nothing is told but it and its place.
func expectError(t *testing.T, l []api.Token, i, at int, e api.Errno) {
	t.Helper()
	expectParse(t, l, i, api.Expr{}, at, e)
}

// expectErrorWithin asks of l without signs ( and within them, be they closed or not.
func expectErrorWithin(t *testing.T, l []api.Token, at int, e api.Errno) {
	t.Helper()
	for _, n := range []int{0, 1, 2, 32} {
		expectError(t, within(n, l)[:n+len(l)], 0, n+at, e)
		expectError(t, slices.Concat([]api.Token{text("")}, within(n, l)[:n+len(l)]), 1, n+at+1, e)
		if e != api.ErrShort { // with which l ends too early, and a ) would stand there
			expectError(t, within(n, l), 0, n+at, e)
		}
	}
}

// expectText reads s's tokens from the first one on.
func expectText(t *testing.T, s string, want api.Expr, at int) {
	t.Helper()
	expectParse(t, tokens(t, s), 0, want, at, api.OK)
}

// expectReadAgain: what Print makes of a sane x is read as x, with the place behind it, within however many signs ( and ), whatever stands ahead and behind.
func expectReadAgain(t *testing.T, x api.Expr) {
	t.Helper()
	printed := cond.Print(x)
	for n := range 33 {
		l := tokens(t, strings.Repeat("(", n)+printed+strings.Repeat(")", n))
		expectParse(t, l, 0, x, len(l), api.OK)
		l = tokens(t, "x: ("+strings.Repeat(" ( ", n)+printed+strings.Repeat(" ) ", n)+") for")
		expectParse(t, l, 3, x, len(l)-2, api.OK)
	}
}

func expectAsModel(t *testing.T, l []api.Token, i int) {
	t.Helper()
	want, at, e := modelParse(l, i, 0)
	expectParse(t, l, i, want, at, e)
}

// modelParse is Parse where some signs ( are open, by a call of itself for each one more.
func modelParse(l []api.Token, i, open int) (api.Expr, int, api.Errno) {
	is := func(at, kind int, s string) bool { return at < len(l) && l[at].K == kind && l[at].S == s }
	short := func(at int) (api.Expr, int, api.Errno) {
		if at == len(l) {
			return api.Expr{}, at, api.ErrShort
		}
		return api.Expr{}, at, api.ErrForm
	}
	if i >= 0 && is(i, api.Sign, "(") {
		if open == 32 {
			return api.Expr{}, i, api.ErrDeep
		}
		x, at, e := modelParse(l, i+1, open+1)
		switch {
		case e != api.OK:
			return api.Expr{}, at, e
		case !is(at, api.Sign, ")"):
			return short(at)
		}
		return x, at + 1, api.OK
	}
	s, at, e := sel.Parse(l, i)
	if e != api.OK {
		return api.Expr{}, at, e
	}
	for op, between := range opSigns {
		if !is(at, api.Sign, between) {
			continue
		}
		if at++; at == len(l) || l[at].K != api.Number {
			return short(at)
		}
		v, e := num.Parse(l[at].S)
		if e != api.OK {
			return api.Expr{}, at, e
		}
		return asks(s, op, v), at + 1, api.OK
	}
	return short(at)
}
