package sel_test

import (
	"fmt"
	"math"
	"math/rand"
	"regexp"
	"slices"
	"strings"
	"testing"

	"watchtower/api"
	"watchtower/lex"
	"watchtower/sel"
)

func word(s string) api.Token { return api.Token{K: api.Word, S: s} }
func text(s string) api.Token { return api.Token{K: api.Text, S: s} }
func sign(s string) api.Token { return api.Token{K: api.Sign, S: s} }

func is(name, value string) api.Match  { return api.Match{Name: name, Value: value} }
func not(name, value string) api.Match { return api.Match{Name: name, Value: value, Not: true} }

func selector(name string, m ...api.Match) api.Sel { return api.Sel{Name: name, M: m} }

// pairs are of names and values by turns.
func pairs(s ...string) []api.Pair {
	var l []api.Pair
	for i := 0; i < len(s); i += 2 {
		l = append(l, api.Pair{Name: s[i], Value: s[i+1]})
	}
	return l
}

// matches are n of them, no two alike.
func matches(n int) []api.Match {
	var m []api.Match
	for i := range n {
		m = append(m, api.Match{Name: fmt.Sprintf("n%d", i), Value: strings.Repeat("v", i), Not: i%2 == 1})
	}
	return m
}

// anyOctet are the 256 octets, each a text.
func anyOctet() []string {
	var list []string
	for c := range 256 {
		list = append(list, string([]byte{byte(c)}))
	}
	return list
}

var (
	long   = strings.Repeat("x", 64)
	longer = strings.Repeat("x", 65)
	// What is a name, and what is none.
	nameList = []string{"a", "Z", "_", "__", "__name__", "up", "a1", "A9z", "_0", "group", "every", "rule", "x_1_y", long, "_" + strings.Repeat("9", 63), strings.Repeat("Z", 64)}
	noNames  = []string{"", "0", "1a", "9_", longer, strings.Repeat("_", 65), strings.Repeat("x", 1000), " ", "a ", " a", "a b", "a-b", "-a", "a.b", "a:b", "é", "aé", "a\x00", "\x00", "a\n", "\"a\"", "{", "a{", "a}", "a=", "\xff", "ａ"}
	// What is a value, with what is quoted.
	valueList = []string{"", "a", " ", "b c", `"`, `\`, "\n", `\n`, `\"`, `"\`, `""`, `\\`, "\n\n", "a\nb\n", "#", "# x", "\r", "\t\r\n", "{}", "}", ",", `",b="`, "=", "!=", "é", "\x00\xff\x80", long, strings.Repeat("\n", 64), strings.Repeat(`"`, 64), strings.Repeat(`\`, 64), strings.Repeat("\xff", 64)}
	noValues  = []string{longer, strings.Repeat("\n", 65), strings.Repeat("é", 33), strings.Repeat("v", 1000)}
)

// P8.1

func TestSaneNames(t *testing.T) {
	for _, name := range nameList {
		expectPrint(t, selector(name), name)
		expectPrint(t, selector("up", is(name, "v")), "up{"+name+`="v"}`)
		expectPrint(t, selector(name, not(name, "")), name+"{"+name+`!=""}`)
	}
	for _, name := range noNames {
		expectInsane(t, selector(name))
		expectInsane(t, selector(name, is("a", "v")))
		expectInsane(t, selector("up", is(name, "v")))
		expectInsane(t, selector("up", not(name, "")))
		expectInsane(t, selector("up", is("a", "v"), is(name, "v"), is("b", "v")))
		expectInsane(t, selector("up", append(matches(7), not(name, "v"))...))
	}
}

// TestSaneOctets: each as a name, at its beginning and behind a letter.
func TestSaneOctets(t *testing.T) {
	for _, c := range anyOctet() {
		for _, name := range []string{c, "a" + c, c + "a"} {
			if name[0] >= '0' && name[0] <= '9' || !strings.Contains("0123456789abcdefghijklmnopqrstuvwxyzABCDEFGHIJKLMNOPQRSTUVWXYZ_", c) {
				expectInsane(t, selector(name))
				expectInsane(t, selector("up", is(name, "v")))
			} else {
				expectPrint(t, selector(name), name)
				expectPrint(t, selector("up", is(name, "v")), "up{"+name+`="v"}`)
			}
		}
	}
}

func TestSaneValues(t *testing.T) {
	for _, value := range append(anyOctet(), valueList...) {
		expectPrint(t, selector("up", is("a", value)), "up{a="+lex.Quote(value)+"}")
		expectPrint(t, selector("up", not("a", value)), "up{a!="+lex.Quote(value)+"}")
		expectPrint(t, selector("up", is("b", "1"), not("a", value), is("c", value)), `up{b="1",a!=`+lex.Quote(value)+",c="+lex.Quote(value)+"}")
	}
	for _, value := range noValues {
		expectInsane(t, selector("up", is("a", value)))
		expectInsane(t, selector("up", not("a", value)))
		expectInsane(t, selector("up", append(matches(7), is("a", value))...))
		expectInsane(t, selector("up", append([]api.Match{not("a", value)}, matches(7)...)...))
	}
	for size := range 130 {
		if got := sel.Sane(selector("up", is("a", strings.Repeat("v", size)))); got != (size <= 64) {
			t.Errorf("Sane of a value of %d octets is %v", size, got)
		}
		if got := sel.Sane(selector("up", is(strings.Repeat("n", size), ""))); got != (1 <= size && size <= 64) {
			t.Errorf("Sane of a match's name of %d octets is %v", size, got)
		}
		if got := sel.Sane(selector(strings.Repeat("n", size))); got != (1 <= size && size <= 64) {
			t.Errorf("Sane of a name of %d octets is %v", size, got)
		}
	}
}

func TestSaneCount(t *testing.T) {
	expectPrint(t, api.Sel{Name: "up", M: []api.Match{}}, "up")
	for n := range 30 {
		s := selector("up", matches(n)...)
		if n > 8 {
			expectInsane(t, s)
		} else if !sel.Sane(s) {
			t.Errorf("%d matches are not sane", n)
		}
	}
	expectInsane(t, selector("up", slices.Repeat([]api.Match{is("a", "")}, 9)...))
	expectInsane(t, selector("up", slices.Repeat([]api.Match{{}}, 1<<16)...))
	expectInsane(t, api.Sel{})
	expectInsane(t, api.Sel{M: matches(1)})
	expectInsane(t, selector("up", api.Match{}))
}

func TestPrint(t *testing.T) {
	expectPrint(t, selector("up"), "up")
	expectPrint(t, selector("up", is("job", "a"), not("x", "b")), `up{job="a",x!="b"}`)
	expectPrint(t, selector("up", is("a", "")), `up{a=""}`)
	expectPrint(t, selector("up", not("a", "")), `up{a!=""}`)
	// in their order, and one name as often as it is there
	expectPrint(t, selector("up", not("b", "1"), is("a", "2"), is("b", "1"), not("b", "1")), `up{b!="1",a="2",b="1",b!="1"}`)
	expectPrint(t, selector("__name__", is("__name__", "up")), `__name__{__name__="up"}`)
	expectPrint(t, selector("up", is("a", "b\nc"), not("a", `\`), is("a", `say "x"`)), `up{a="b\nc",a!="\\",a="say \"x\""}`)
	expectPrint(t, selector("up", matches(8)...), `up{n0="",n1!="v",n2="vv",n3!="vvv",n4="vvvv",n5!="vvvvv",n6="vvvvvv",n7!="vvvvvvv"}`)
}

// P8.2

func TestExample(t *testing.T) {
	want := selector("up", is("job", "a"), not("x", "b"))
	expectText(t, `up{job="a",x!="b"}`, want, 10)
	expectFits(t, want, pairs("__name__", "up", "job", "a"), true)
}

func TestParseNameAlone(t *testing.T) {
	for _, name := range nameList {
		expectParse(t, []api.Token{word(name)}, 0, selector(name), 1, api.OK)
		expectParse(t, []api.Token{word(name), word(name)}, 1, selector(name), 2, api.OK)
		for _, x := range manyTokens() {
			if x != sign("{") {
				expectParse(t, []api.Token{word(name), x}, 0, selector(name), 1, api.OK)
				expectParse(t, []api.Token{x, word(name), x}, 1, selector(name), 2, api.OK)
			}
		}
	}
}

func TestParseMatches(t *testing.T) {
	for s, want := range map[string]api.Sel{
		`up{}`:                    selector("up"),
		`up{a="1"}`:               selector("up", is("a", "1")),
		`up{a!="1"}`:              selector("up", not("a", "1")),
		`up{a=""}`:                selector("up", is("a", "")),
		`up{a!=""}`:               selector("up", not("a", "")),
		`up{b!="1",a="2",b="1"}`:  selector("up", not("b", "1"), is("a", "2"), is("b", "1")),
		`up{a="1",a="1"}`:         selector("up", is("a", "1"), is("a", "1")),
		`_{_="_"}`:                selector("_", is("_", "_")),
		`up{__name__!="up"}`:      selector("up", not("__name__", "up")),
		`up{a="}",b=","}`:         selector("up", is("a", "}"), is("b", ",")),
		`up{a="\n\\\"",b!="{"}`:   selector("up", is("a", "\n\\\""), not("b", "{")),
		sel.Print(selector(long)): selector(long),
		`up{` + long + `!="a"}`:   selector("up", not(long, "a")),
		`up{a="` + long + `"}`:    selector("up", is("a", long)),
		"up # x\n{ a\n=\t\"1\" ,\r b != \"2\" } # y": selector("up", is("a", "1"), not("b", "2")),
	} {
		l, _, _ := lex.All(s)
		expectText(t, s, want, len(l))
	}
	for n := 1; n <= 8; n++ {
		expectText(t, sel.Print(selector("up", matches(n)...)), selector("up", matches(n)...), 4*n+2)
	}
}

// TestParseValues: a text of 64 octets is one, and one of 65 is none.
func TestParseValues(t *testing.T) {
	for _, value := range append(anyOctet(), valueList...) {
		expectParse(t, []api.Token{word("up"), sign("{"), word("a"), sign("="), text(value), sign("}")}, 0, selector("up", is("a", value)), 6, api.OK)
	}
	for _, value := range noValues {
		expectError(t, []api.Token{word("up"), sign("{"), word("a"), sign("="), text(value), sign("}")}, 0, 4, api.ErrLarge)
		expectError(t, []api.Token{word("up"), sign("{"), word("a"), sign("!="), text("1"), sign(","), word("a"), sign("="), text(value)}, 0, 8, api.ErrLarge)
	}
	for size := range 130 {
		l := []api.Token{word("up"), sign("{"), word("a"), sign("="), text(strings.Repeat("\"", size)), sign("}")}
		if size <= 64 {
			expectParse(t, l, 0, selector("up", is("a", strings.Repeat("\"", size))), 6, api.OK)
		} else {
			expectError(t, l, 0, 4, api.ErrLarge)
		}
	}
}

// TestParsePlaces: at an i that is none, and at each i of some tokens.
func TestParsePlaces(t *testing.T) {
	few, _, _ := lex.All(`up{a="1"}`)
	for _, l := range [][]api.Token{nil, {}, {word("a")}, {sign("{")}, few} {
		for _, i := range []int{-1, -2, -len(l), -len(l) - 1, math.MinInt, math.MinInt + 1, math.MinInt32} {
			if i < 0 {
				expectError(t, l, i, 0, api.ErrShort)
			}
		}
		for _, i := range []int{len(l), len(l) + 1, len(l) + 2, 100, math.MaxInt, math.MaxInt - 1, math.MaxInt32, 1 << 32} {
			expectError(t, l, i, len(l), api.ErrShort)
		}
	}
	l, _, _ := lex.All(`a b{} c{d="1"}e{f!="2",g="3"}>1;`)
	for i, want := range map[int]struct {
		s  api.Sel
		at int
	}{
		0: {selector("a"), 1}, 1: {selector("b"), 4}, 4: {selector("c", is("d", "1")), 10}, 6: {selector("d"), 7}, 10: {selector("e", not("f", "2"), is("g", "3")), 20}, 12: {selector("f"), 13}, 16: {selector("g"), 17},
	} {
		expectParse(t, l, i, want.s, want.at, api.OK)
	}
	for i, x := range l {
		if x.K != api.Word {
			expectError(t, l, i, i, api.ErrForm)
		}
	}
}

// TestParseBehind: whatever stands behind a selector does not matter.
func TestParseBehind(t *testing.T) {
	for _, s := range []api.Sel{selector("up", is("a", "1")), selector("up", matches(8)...)} {
		l, _, _ := lex.All(sel.Print(s))
		for _, x := range manyTokens() {
			expectParse(t, append(slices.Clone(l), x), 0, s, len(l), api.OK)
			expectParse(t, append([]api.Token{x, x}, append(slices.Clone(l), x, x)...), 2, s, len(l)+2, api.OK)
		}
	}
	expectText(t, `up{}{`, selector("up"), 3)
	expectText(t, `up{}{a="1"}`, selector("up"), 3)
	expectText(t, `up{a="1"}{b="2"}`, selector("up", is("a", "1")), 6)
	expectText(t, `up{a="1"},b="2"}`, selector("up", is("a", "1")), 6)
	expectText(t, `up,a="1"}`, selector("up"), 1)
	expectText(t, `up(a="1")`, selector("up"), 1)
}

// TestParseEnds: behind each token of a selector but the name and the last one more is wanted.
func TestParseEnds(t *testing.T) {
	for _, s := range []string{`up{}`, `up{a="1"}`, `up{a!="1",b="2"}`, sel.Print(selector("up", matches(8)...))} {
		l, _, _ := lex.All(s)
		expectParse(t, l[:1], 0, selector("up"), 1, api.OK)
		for n := range len(l) {
			if n != 1 {
				expectError(t, l[:n], 0, n, api.ErrShort)
				expectError(t, append([]api.Token{sign("}")}, l[:n]...), 1, n+1, api.ErrShort)
			}
		}
	}
}

// TestParseWrongTokens: each kind of token at each place of a selector.
func TestParseWrongTokens(t *testing.T) {
	l, _, _ := lex.All(`up{a="1",b!="2"} x`)
	for at := range len(l) - 1 {
		for _, x := range manyTokens() {
			changed := slices.Clone(l)
			changed[at] = x
			switch {
			case mayStand(at, x):
			case strings.Contains("| 0 | 2 | 6 |", fmt.Sprintf(" %d ", at)) && x.K == api.Word:
				expectError(t, changed, 0, at, api.ErrName)
			case (at == 4 || at == 8) && x.K == api.Text:
				expectError(t, changed, 0, at, api.ErrLarge)
			case at == 1:
				expectParse(t, changed, 0, selector("up"), 1, api.OK)
			default:
				expectError(t, changed, 0, at, api.ErrForm)
			}
			expectAsModel(t, changed, 0)
		}
	}
}

// mayStand: may x stand at a place of up{a="1",b!="2"}?
func mayStand(at int, x api.Token) bool {
	switch at {
	case 0, 6:
		return x.K == api.Word && isName.MatchString(x.S)
	case 2:
		return x.K == api.Word && isName.MatchString(x.S) || x == sign("}")
	case 1:
		return x == sign("{")
	case 3, 7:
		return x == sign("=") || x == sign("!=")
	case 4, 8:
		return x.K == api.Text && len(x.S) <= 64
	}
	return x == sign(",") || x == sign("}")
}

func TestParseErrors(t *testing.T) {
	for _, x := range []struct {
		s  string
		at int
		e  api.Errno
	}{
		{``, 0, api.ErrShort}, {`1`, 0, api.ErrForm}, {`"up"`, 0, api.ErrForm}, {`{`, 0, api.ErrForm}, {`{}`, 0, api.ErrForm}, {`-1s`, 0, api.ErrForm}, {longer, 0, api.ErrName}, {longer + `{`, 0, api.ErrName}, {longer + `{,`, 0, api.ErrName},
		{`up{`, 2, api.ErrShort}, {`up{,`, 2, api.ErrForm}, {`up{,}`, 2, api.ErrForm}, {`up{{`, 2, api.ErrForm}, {`up{=`, 2, api.ErrForm}, {`up{"a"`, 2, api.ErrForm}, {`up{1`, 2, api.ErrForm}, {`up{)`, 2, api.ErrForm}, {`up{` + longer, 2, api.ErrName}, {`up{` + longer + `}`, 2, api.ErrName},
		{`up{a`, 3, api.ErrShort}, {`up{a}`, 3, api.ErrForm}, {`up{a,`, 3, api.ErrForm}, {`up{a b`, 3, api.ErrForm}, {`up{a=="1"}`, 3, api.ErrForm}, {`up{a>"1"}`, 3, api.ErrForm}, {`up{a>="1"}`, 3, api.ErrForm}, {`up{a<="1"}`, 3, api.ErrForm}, {`up{a<"1"}`, 3, api.ErrForm}, {`up{a:"1"}`, 3, api.ErrForm}, {`up{a"1"}`, 3, api.ErrForm}, {`up{a 1`, 3, api.ErrForm},
		{`up{a=`, 4, api.ErrShort}, {`up{a=}`, 4, api.ErrForm}, {`up{a!=}`, 4, api.ErrForm}, {`up{a=b}`, 4, api.ErrForm}, {`up{a=1}`, 4, api.ErrForm}, {`up{a= ="1"}`, 4, api.ErrForm}, {`up{a!=="1"}`, 4, api.ErrForm}, {`up{a=,`, 4, api.ErrForm}, {`up{a="` + longer + `"`, 4, api.ErrLarge}, {`up{a="` + longer + `",,`, 4, api.ErrLarge},
		{`up{a="1"`, 5, api.ErrShort}, {`up{a="1"b`, 5, api.ErrForm}, {`up{a="1""2"}`, 5, api.ErrForm}, {`up{a="1"=`, 5, api.ErrForm}, {`up{a="1"{`, 5, api.ErrForm}, {`up{a="1";b="2"}`, 5, api.ErrForm}, {`up{a="1")`, 5, api.ErrForm}, {`up{a="1"1`, 5, api.ErrForm},
		{`up{a="1",`, 6, api.ErrShort}, {`up{a="1",}`, 6, api.ErrForm}, {`up{a="1",,`, 6, api.ErrForm}, {`up{a="1","b"`, 6, api.ErrForm}, {`up{a="1",1`, 6, api.ErrForm}, {`up{a="1",=`, 6, api.ErrForm}, {`up{a="1",` + longer + `}`, 6, api.ErrName},
		{`up{a="1",b`, 7, api.ErrShort}, {`up{a="1",b c`, 7, api.ErrForm}, {`up{a="1",b==`, 7, api.ErrForm}, {`up{a="1",b!=`, 8, api.ErrShort}, {`up{a="1",b!=c`, 8, api.ErrForm}, {`up{a="1",b!="` + longer + `"}`, 8, api.ErrLarge}, {`up{a="1",b!="2"`, 9, api.ErrShort}, {`up{a="1",b!="2",}`, 10, api.ErrForm}, {`up{a="1",b!="2"c`, 9, api.ErrForm},
	} {
		l, _, _ := lex.All(x.s)
		expectError(t, l, 0, x.at, x.e)
		ahead := append([]api.Token{word("a"), sign("{"), text("b")}, l...)
		expectError(t, ahead, 3, 3+x.at, x.e)
		expectAsModel(t, l, 0)
	}
	for _, name := range noNames {
		expectError(t, []api.Token{word(name)}, 0, 0, api.ErrName)
		expectError(t, []api.Token{word(name), sign("{"), sign("}")}, 0, 0, api.ErrName)
		expectError(t, []api.Token{word("up"), sign("{"), word(name), sign("="), text("")}, 0, 2, api.ErrName)
		expectError(t, []api.Token{word("up"), sign("{"), word("a"), sign("!="), text(""), sign(","), word(name)}, 0, 6, api.ErrName)
	}
}

// TestParseNinth: a ninth match is read as far as its text, and what is wrong with it ahead of that comes first.
func TestParseNinth(t *testing.T) {
	eight := sel.Print(selector("up", matches(8)...))
	eight = eight[:len(eight)-1]
	for _, x := range []struct {
		s  string
		at int
		e  api.Errno
	}{
		{`,a="1"}`, 36, api.ErrLarge}, {`,a!="1"`, 36, api.ErrLarge}, {`,a=""`, 36, api.ErrLarge}, {`,a="1"x`, 36, api.ErrLarge}, {`,a="1",b="2"}`, 36, api.ErrLarge}, {`,a="` + longer + `"}`, 36, api.ErrLarge}, {`,a="1",b==`, 36, api.ErrLarge},
		{``, 33, api.ErrShort}, {`,`, 34, api.ErrShort}, {`,a`, 35, api.ErrShort}, {`,a=`, 36, api.ErrShort}, {`,a!=`, 36, api.ErrShort},
		{`a="1"}`, 33, api.ErrForm}, {`"1"`, 33, api.ErrForm}, {`,}`, 34, api.ErrForm}, {`,,`, 34, api.ErrForm}, {`,"1"`, 34, api.ErrForm}, {`,1="1"}`, 34, api.ErrForm}, {`,` + longer + `="1"}`, 34, api.ErrName}, {`,a=="1"}`, 35, api.ErrForm}, {`,a}`, 35, api.ErrForm}, {`,a"1"}`, 35, api.ErrForm}, {`,a=1}`, 36, api.ErrForm}, {`,a=b}`, 36, api.ErrForm}, {`,a=}`, 36, api.ErrForm},
	} {
		l, _, _ := lex.All(eight + x.s)
		expectError(t, l, 0, x.at, x.e)
		expectError(t, append([]api.Token{text("")}, l...), 1, x.at+1, x.e)
		expectAsModel(t, l, 0)
	}
	for n := 9; n < 40; n++ {
		s := "up{a=\"1\"" + strings.Repeat(",a=\"1\"", n-1) + "}"
		l, _, _ := lex.All(s)
		expectError(t, l, 0, 36, api.ErrLarge)
	}
	// the eighth one is none too many, and too long a text in it is told at its place
	expectText(t, eight+"}", selector("up", matches(8)...), 34)
	l, _, _ := lex.All(eight + "}")
	l[32].S = longer
	expectError(t, l, 0, 32, api.ErrLarge)
}

// TestParseKinds: a token's kind and its text count, and its place does not.
func TestParseKinds(t *testing.T) {
	want := selector("up", is("a", "1"), not("b", "2"))
	l, _, _ := lex.All(sel.Print(want))
	for _, at := range []int{0, 7, -1, math.MinInt, math.MaxInt} {
		placed := slices.Clone(l)
		for i := range placed {
			placed[i].At = at
		}
		expectParse(t, placed, 0, want, len(l), api.OK)
		placed[3].S = "=="
		expectError(t, placed, 0, 3, api.ErrForm)
		expectError(t, placed[:8], 4, 4, api.ErrForm)
	}
	backwards := slices.Clone(l)
	for i := range backwards {
		backwards[i].At = -i
	}
	expectParse(t, backwards, 0, want, len(l), api.OK)
	for i := range l {
		for _, k := range []int{0, -1, 1, 2, 3, 4, 5, 8, 256 + 1, math.MinInt, math.MaxInt} {
			if k == l[i].K {
				continue
			}
			changed := slices.Clone(l)
			changed[i].K = k
			switch i {
			case 1:
				expectParse(t, changed, 0, selector("up"), 1, api.OK)
			case len(l):
			default:
				e := api.ErrForm
				if k == api.Word && (i == 2 || i == 6) {
					e = api.ErrName
				}
				expectError(t, changed, 0, i, e)
			}
			expectAsModel(t, changed, 0)
		}
	}
	for _, x := range []api.Token{{}, {K: 5, S: "up"}, {K: -1, S: "up"}, {K: 0, S: "up"}, {K: api.Sign, S: "up"}, {K: api.Text, S: "up"}, {K: api.Number, S: "up"}} {
		expectError(t, []api.Token{x}, 0, 0, api.ErrForm)
		expectError(t, []api.Token{x, sign("{"), sign("}")}, 0, 0, api.ErrForm)
	}
	for _, s := range []string{"", "{{", "{}", " {", "{ ", "!", "x", "=", "("} {
		expectParse(t, []api.Token{word("up"), sign(s), sign("}")}, 0, selector("up"), 1, api.OK)
		if s != "=" {
			expectError(t, []api.Token{word("up"), sign("{"), word("a"), sign(s), text(""), sign("}")}, 0, 3, api.ErrForm)
		}
		expectError(t, []api.Token{word("up"), sign("{"), sign(s)}, 0, 2, api.ErrForm)
		expectError(t, []api.Token{word("up"), sign("{"), word("a"), sign("="), text(""), sign(s)}, 0, 5, api.ErrForm)
	}
}

// TestParseAll: every list of up to four of the tokens that stand for all, and every one behind each beginning of a selector, as the model tells.
func TestParseAll(t *testing.T) {
	some := []api.Token{word("a"), word("1"), text("v"), text(longer), {K: api.Number, S: "1"}, sign("{"), sign("}"), sign(","), sign("="), sign("!="), sign("=="), {K: 0, S: "a"}}
	lists := [][]api.Token{nil}
	for from := 0; len(lists[from]) < 4; from++ {
		for _, x := range some {
			lists = append(lists, append(slices.Clone(lists[from]), x))
		}
	}
	for _, l := range lists {
		for i := -1; i <= len(l)+1; i++ {
			expectAsModel(t, l, i)
		}
	}
	full, _, _ := lex.All(sel.Print(selector("up", matches(8)...)))
	full = append(full[:len(full)-1], sign(","), word("a"), sign("="), text(""), sign("}"))
	for n := range len(full) + 1 {
		for _, x := range some {
			for _, y := range some {
				expectAsModel(t, append(slices.Clone(full[:n]), x, y), 0)
			}
		}
	}
}

// TestParseAnyTokens: with tokens left out, laid twice, and others laid between.
func TestParseAnyTokens(t *testing.T) {
	r := rand.New(rand.NewSource(8))
	most := manyTokens()
	for range 30000 {
		s := selector(nameList[r.Intn(len(nameList))])
		for range r.Intn(11) {
			s.M = append(s.M, api.Match{Name: nameList[r.Intn(len(nameList))], Value: valueList[r.Intn(len(valueList))], Not: r.Intn(2) == 0})
		}
		l := tokensOf(s)
		for range r.Intn(3) {
			at := r.Intn(len(l))
			switch r.Intn(4) {
			case 0:
				l = slices.Delete(l, at, at+1)
			case 1:
				l = slices.Insert(l, at, l[r.Intn(len(l))])
			case 2:
				l = slices.Insert(l, at, most[r.Intn(len(most))])
			case 3:
				l[at] = most[r.Intn(len(most))]
			}
			l = append(l, most[r.Intn(len(most))])
		}
		expectAsModel(t, l, 0)
		expectAsModel(t, append([]api.Token{sign("{")}, l...), 1)
	}
}

// TestParseManyTokens: that they are many is no matter.
func TestParseManyTokens(t *testing.T) {
	l := slices.Repeat([]api.Token{word("up"), sign("{"), word("a"), sign("="), text("1"), sign("}")}, 1<<16)
	for _, i := range []int{0, 6, len(l) - 6} {
		expectParse(t, l, i, selector("up", is("a", "1")), i+6, api.OK)
	}
	expectError(t, slices.Repeat([]api.Token{text("")}, 1<<16), 1<<15, 1<<15, api.ErrForm)
}

// P8.3

func TestFitsNames(t *testing.T) {
	for _, name := range nameList {
		expectFits(t, selector(name), pairs("__name__", name), true)
		expectFits(t, selector(name), pairs("__name__", name, "a", "1"), true)
		expectFits(t, selector(name), pairs("A", "1", "__name__", name), true)
		expectFits(t, selector(name), pairs("__name__", name+"x"), false)
		expectFits(t, selector(name+"x"), pairs("__name__", name), false)
	}
	for _, l := range [][]api.Pair{nil, {}, pairs("__name__", ""), pairs("__name__", "uq"), pairs("__name__", "UP"), pairs("__name__", "u"), pairs("__name__", "upp"), pairs("__name__", " up"), pairs("a", "up"), pairs("name", "up"), pairs("__name", "up"), pairs("__name___", "up"), pairs("_name_", "up"), pairs("up", "up"), pairs("up", "__name__"), pairs("__nama__", "up", "a", "1")} {
		expectFits(t, selector("up"), l, false)
		expectFits(t, selector("up", not("a", "2")), l, false)
	}
}

// TestFitsInsane: a selector that is none fits nothing, be the labels as its name is, or none.
func TestFitsInsane(t *testing.T) {
	for _, name := range noNames {
		expectFits(t, selector(name), pairs("__name__", name), false)
		expectFits(t, selector(name), nil, false)
		expectFits(t, selector("up", not(name, "v")), pairs("__name__", "up"), false)
		expectFits(t, selector("up", is(name, "")), pairs("__name__", "up"), false)
	}
	for _, value := range noValues {
		expectFits(t, selector("up", not("a", value)), pairs("__name__", "up"), false)
		expectFits(t, selector("up", not("a", value)), pairs("__name__", "up", "a", "1"), false)
		expectFits(t, selector("up", is("a", value)), pairs("__name__", "up", "a", value), false)
	}
	for n := range 20 {
		expectFits(t, selector("up", slices.Repeat([]api.Match{is("a", "")}, n)...), pairs("__name__", "up"), n <= 8)
		expectFits(t, selector("up", slices.Repeat([]api.Match{not("a", "x")}, n)...), pairs("__name__", "up"), n <= 8)
	}
	expectFits(t, api.Sel{}, nil, false)
	expectFits(t, api.Sel{}, pairs("__name__", ""), false)
}

// TestFitsNoLabels: what are no labels is fitted by nothing.
func TestFitsNoLabels(t *testing.T) {
	for _, s := range []api.Sel{selector("up"), selector("up", is("b", "")), selector("up", not("b", "x")), selector("up", is("__name__", "up"))} {
		expectFits(t, s, pairs("__name__", "up", "a", "1"), true)
		expectFits(t, s, pairs("a", "1", "__name__", "up"), false)
		expectFits(t, s, pairs("__name__", "up", "c", "1", "a", "1"), false)
		expectFits(t, s, pairs("__name__", "up", "__name__", "up"), false)
		expectFits(t, s, pairs("__name__", "up", "a", "1", "a", "1"), false)
		expectFits(t, s, pairs("__name__", "up", "a", "1", "a", "2"), false)
		expectFits(t, s, pairs("", "", "__name__", "up"), false)
		for _, name := range noNames {
			l := pairs("__name__", "up", name, "1")
			slices.SortFunc(l, func(x, y api.Pair) int { return strings.Compare(x.Name, y.Name) })
			expectFits(t, s, l, false)
		}
		for _, value := range noValues {
			expectFits(t, s, pairs("__name__", "up", "a", value), false)
		}
		expectFits(t, s, pairs("__name__", "up", "a", long), true)
		for n := range 20 {
			l := pairs("__name__", "up")
			for i := range n {
				l = append(l, api.Pair{Name: fmt.Sprintf("n%02d", i), Value: "1"})
			}
			expectFits(t, s, l, n+1 <= 16)
		}
	}
}

func TestFitsMatches(t *testing.T) {
	up := pairs("__name__", "up", "a", "1", "b", "", "c", "a\n\"")
	for _, x := range []struct {
		m    []api.Match
		fits bool
	}{
		{nil, true}, {[]api.Match{}, true},
		{[]api.Match{is("a", "1")}, true}, {[]api.Match{is("a", "2")}, false}, {[]api.Match{is("a", "")}, false}, {[]api.Match{is("a", "11")}, false}, {[]api.Match{is("a", "1 ")}, false},
		{[]api.Match{not("a", "1")}, false}, {[]api.Match{not("a", "2")}, true}, {[]api.Match{not("a", "")}, true},
		// b is there with the value "", and d is not there
		{[]api.Match{is("b", "")}, true}, {[]api.Match{not("b", "")}, false}, {[]api.Match{is("b", "1")}, false}, {[]api.Match{not("b", "1")}, true},
		{[]api.Match{is("d", "")}, true}, {[]api.Match{not("d", "")}, false}, {[]api.Match{is("d", "1")}, false}, {[]api.Match{not("d", "1")}, true},
		{[]api.Match{is("c", "a\n\"")}, true}, {[]api.Match{not("c", "a\n\"")}, false}, {[]api.Match{is("c", "A\n\"")}, false}, {[]api.Match{is("A", "1")}, false},
		// every one counts, at each place
		{[]api.Match{is("a", "1"), not("d", "x"), is("b", "")}, true}, {[]api.Match{is("a", "2"), not("d", "x"), is("b", "")}, false}, {[]api.Match{is("a", "1"), not("d", ""), is("b", "")}, false}, {[]api.Match{is("a", "1"), not("d", "x"), is("b", "x")}, false},
		// two of one name
		{[]api.Match{is("a", "1"), is("a", "1")}, true}, {[]api.Match{is("a", "1"), is("a", "2")}, false}, {[]api.Match{is("a", "2"), is("a", "1")}, false}, {[]api.Match{not("a", "2"), not("a", "3")}, true}, {[]api.Match{not("a", "2"), not("a", "1")}, false}, {[]api.Match{is("a", "1"), not("a", "2")}, true}, {[]api.Match{is("a", "1"), not("a", "1")}, false}, {[]api.Match{not("a", "1"), is("a", "1")}, false},
		// the name is a label as any other
		{[]api.Match{is("__name__", "up")}, true}, {[]api.Match{not("__name__", "up")}, false}, {[]api.Match{is("__name__", "uq")}, false}, {[]api.Match{not("__name__", "uq")}, true}, {[]api.Match{is("__name__", "")}, false}, {[]api.Match{not("__name__", "")}, true},
	} {
		expectFits(t, selector("up", x.m...), up, x.fits)
		expectFits(t, selector("uq", x.m...), up, false)
	}
	// each of eight
	for at := range 8 {
		m := slices.Repeat([]api.Match{not("d", "x")}, 8)
		expectFits(t, selector("up", m...), up, true)
		m[at] = is("d", "x")
		expectFits(t, selector("up", m...), up, false)
	}
	// labels that are as many as may be, and their last one
	l := pairs("__name__", "up")
	for i := range 15 {
		l = append(l, api.Pair{Name: fmt.Sprintf("n%02d", i), Value: fmt.Sprint(i)})
	}
	expectFits(t, selector("up", is("n00", "0"), is("n14", "14"), not("n15", "15")), l, true)
	expectFits(t, selector("up", not("n14", "14")), l, false)
}

// TestFitsAll: labels of up to three pairs, in order or not, and selectors of up to two matches, as the model tells.
func TestFitsAll(t *testing.T) {
	var ps []api.Pair
	var ms []api.Match
	for _, name := range []string{"__name__", "a", "b"} {
		for _, value := range []string{"", "u", "v"} {
			ps = append(ps, api.Pair{Name: name, Value: value})
			ms = append(ms, is(name, value), not(name, value))
		}
	}
	labels := [][]api.Pair{nil}
	for from := 0; len(labels[from]) < 3; from++ {
		for _, p := range ps {
			labels = append(labels, append(slices.Clone(labels[from]), p))
		}
	}
	sels := []api.Sel{selector("u"), selector("v"), selector("")}
	for from := 0; len(sels[from].M) < 2; from++ {
		for _, m := range ms {
			sels = append(sels, selector(sels[from].Name, append(slices.Clone(sels[from].M), m)...))
		}
	}
	for _, s := range sels {
		for _, l := range labels {
			if got, want := sel.Fits(s, l), modelFits(s, l); got != want {
				t.Fatalf("Fits of %s and %s is %v", show(s), show(l), got)
			}
		}
	}
}

// P8.4

func TestPrintedIsParsed(t *testing.T) {
	for _, name := range nameList {
		for _, value := range append(anyOctet(), valueList...) {
			expectReadAgain(t, selector(name, is(name, value)))
			expectReadAgain(t, selector("up", not(name, value), is("a", value), not("a", value)))
		}
	}
	for n := range 9 {
		expectReadAgain(t, selector("up", matches(n)...))
		expectReadAgain(t, selector(long, slices.Repeat([]api.Match{not(long, strings.Repeat("\"", 64))}, n)...))
	}
	r := rand.New(rand.NewSource(84))
	for range 5000 {
		s := selector(nameList[r.Intn(len(nameList))])
		for range r.Intn(9) {
			value := make([]byte, r.Intn(65))
			for i := range value {
				value[i] = "\"\\\nn#a \x00\xff"[r.Intn(9)]
			}
			s.M = append(s.M, api.Match{Name: nameList[r.Intn(len(nameList))], Value: string(value), Not: r.Intn(2) == 0})
		}
		expectReadAgain(t, s)
	}
}

// TestPrintedApart: no two selectors have one text.
func TestPrintedApart(t *testing.T) {
	of := map[string]string{}
	for _, s := range []api.Sel{selector("a"), selector("b"), selector("a", is("a", "")), selector("a", not("a", "")), selector("a", is("a", `"`)), selector("a", is("a", `\`)), selector("a", is("a", `\"`)), selector("a", is("a", `",a="`)), selector("a", is("a", ""), is("a", "")), selector("a", is("a", "n")), selector("a", is("a", "\n")), selector("a", is("a", `\n`))} {
		printed, said := sel.Print(s), show(s)
		if other, there := of[printed]; there {
			t.Errorf("%s and %s are both printed %q", said, other, printed)
		}
		of[printed] = said
	}
}

// R1 to R5

// TestNothingIsKept: what is asked between two calls does not matter.
func TestNothingIsKept(t *testing.T) {
	want := selector("up", is("a", "1"))
	l := tokensOf(want)
	for _, between := range [][]api.Token{nil, l[:4], tokensOf(selector("x", matches(8)...)), tokensOf(selector("x", matches(9)...)), {word("up"), sign("{"), word("1")}} {
		s, _, _ := sel.Parse(between, 0)
		sel.Print(s)
		sel.Fits(s, pairs("__name__", "x"))
		expectParse(t, l, 0, want, 6, api.OK)
		expectPrint(t, want, `up{a="1"}`)
		expectFits(t, want, pairs("__name__", "up", "a", "1"), true)
	}
}

// TestAnswersAreApart: a selector that was answered stays as it was, whatever is laid over or behind another one.
func TestAnswersAreApart(t *testing.T) {
	l := tokensOf(selector("up", matches(5)...))
	one, _, _ := sel.Parse(l, 0)
	two, _, _ := sel.Parse(l, 0)
	_ = append(two.M, is("z", "z"))
	clear(two.M)
	if !slices.Equal(one.M, matches(5)) {
		t.Errorf("%s has become %s", show(matches(5)), show(one.M))
	}
}

// P1: no arguments make a call panic, or go on for ever; and all hold against a model.
func FuzzCalls(f *testing.F) {
	f.Add(`up{job="a",x!="b"}`, 0, "up", "job", "a", true)
	f.Add(`a b{} c{d="1",}`, 2, "", "1", "\n", false)
	f.Add(sel.Print(selector("up", matches(8)...)), -1, long, longer, longer, false)
	f.Fuzz(func(t *testing.T, s string, i int, name, label, value string, differs bool) {
		if len(s) > 1<<12 {
			return
		}
		l, _, _ := lex.All(s)
		expectAsModel(t, l, i)
		for at := range l {
			expectAsModel(t, l, at)
		}
		x := selector(name, api.Match{Name: label, Value: value, Not: differs}, is(value, label))
		for n := range 3 {
			x.M = x.M[:2-n]
			labels := pairs("__name__", name, label, value)
			expectFits(t, x, labels, modelFits(x, labels))
			if modelSane(x) {
				expectReadAgain(t, x)
			} else {
				expectInsane(t, x)
			}
			expectAsModel(t, tokensOf(x), 0)
		}
	})
}

// manyTokens are of all kinds, and of none.
func manyTokens() []api.Token {
	list := []api.Token{{}, {K: 5, S: "a"}, {K: -1, S: "{"}, {K: 0, S: "}"}, {K: api.Number, S: "1"}, {K: api.Number, S: "-1.5s"}, {K: api.Number, S: "a"}}
	for _, s := range []string{"", "{", "}", "(", ")", ",", ":", ";", "=", "!=", "==", ">", ">=", "<", "<=", "!", "a", "\"1\""} {
		list = append(list, sign(s), text(s))
	}
	for _, s := range []string{"a", "for", "_", long, longer, "", "1", "{", "}", ",", "=", "é"} {
		list = append(list, word(s), text(s))
	}
	return list
}

// tokensOf are the tokens that stand for s, be it sane or not.
func tokensOf(s api.Sel) []api.Token {
	l := []api.Token{word(s.Name)}
	for i, m := range s.M {
		between, how := ",", "="
		if i == 0 {
			between = "{"
		}
		if m.Not {
			how = "!="
		}
		l = append(l, sign(between), word(m.Name), sign(how), text(m.Value))
	}
	if len(s.M) > 0 {
		l = append(l, sign("}"))
	}
	return l
}

func same(a, b api.Sel) bool { return a.Name == b.Name && slices.Equal(a.M, b.M) }

// show has the beginning of a long thing alone.
func show(x any) string { return fmt.Sprintf("%.300s", fmt.Sprintf("%+q", fmt.Sprint(x))) }

// expectPrint asks Sane and Print of what is sane; what is handed in stays as it is, and so does the room behind it.
func expectPrint(t *testing.T, s api.Sel, want string) {
	t.Helper()
	expectSaneAndPrint(t, s, true, want)
	expectReadAgain(t, s)
}

func expectInsane(t *testing.T, s api.Sel) {
	t.Helper()
	expectSaneAndPrint(t, s, false, "")
}

func expectSaneAndPrint(t *testing.T, s api.Sel, sane bool, printed string) {
	t.Helper()
	room := append(slices.Clone(s.M), is("behind", "room"), not("behind", "room"))
	was := slices.Clone(room)
	for _, x := range []api.Sel{s, {Name: s.Name, M: room[:len(s.M)]}} {
		if got := sel.Sane(x); got != sane {
			t.Errorf("Sane of %s is %v", show(s), got)
		}
		if got := sel.Print(x); got != printed {
			t.Errorf("Print of %s is %q, not %q", show(s), got, printed)
		}
	}
	if !slices.Equal(room, was) {
		t.Errorf("%s, handed in, was changed to %s", show(was), show(room))
	}
}

// expectParse asks Parse, of tokens with room behind and without; what is handed in stays as it is.
func expectParse(t *testing.T, l []api.Token, i int, want api.Sel, at int, e api.Errno) {
	t.Helper()
	room := append(slices.Clone(l), sign("{"), word("behind"), sign("="), text("room"), sign("}"))
	was := slices.Clone(room)
	for _, x := range [][]api.Token{l, room[:len(l)], room[:len(l):len(l)]} {
		got, gotAt, gotE := sel.Parse(x, i)
		if !same(got, want) || gotAt != at || gotE != e {
			t.Fatalf("Parse of %s at %d is %s, %d, %v, not %s, %d, %v", show(l), i, show(got), gotAt, gotE, show(want), at, e)
		}
	}
	if !slices.Equal(room, was) {
		t.Errorf("%s, handed in, was changed to %s", show(was), show(room))
	}
}

// expectError: with an error nothing is told but it and its place.
func expectError(t *testing.T, l []api.Token, i, at int, e api.Errno) {
	t.Helper()
	expectParse(t, l, i, api.Sel{}, at, e)
}

// expectText reads s's tokens from the first one on.
func expectText(t *testing.T, s string, want api.Sel, at int) {
	t.Helper()
	l, _, e := lex.All(s)
	if e != api.OK {
		t.Fatalf("%q is no tokens: %v", s, e)
	}
	expectParse(t, l, 0, want, at, api.OK)
}

func expectAsModel(t *testing.T, l []api.Token, i int) {
	t.Helper()
	want, at, e := modelParse(l, i)
	expectParse(t, l, i, want, at, e)
}

// expectFits asks Fits; what is handed in stays as it is, and so does the room behind it.
func expectFits(t *testing.T, s api.Sel, l []api.Pair, want bool) {
	t.Helper()
	matchRoom := append(slices.Clone(s.M), is("__name__", "another"), not("a", ""))
	pairRoom := append(slices.Clone(l), pairs("__name__", "up", "zz", "room")...)
	wasM, wasL := slices.Clone(matchRoom), slices.Clone(pairRoom)
	for _, x := range []api.Sel{s, {Name: s.Name, M: matchRoom[:len(s.M)]}} {
		for _, y := range [][]api.Pair{l, pairRoom[:len(l)]} {
			if got := sel.Fits(x, y); got != want {
				t.Errorf("Fits of %s and %s is %v", show(s), show(l), got)
			}
		}
	}
	if !slices.Equal(matchRoom, wasM) || !slices.Equal(pairRoom, wasL) {
		t.Errorf("%s and %s, handed in, were changed to %s and %s", show(wasM), show(wasL), show(matchRoom), show(pairRoom))
	}
}

// expectReadAgain: what Print makes of a sane s is read as s, with the place behind it, whatever stands ahead and behind.
func expectReadAgain(t *testing.T, s api.Sel) {
	t.Helper()
	printed := sel.Print(s)
	l, _, e := lex.All(printed)
	if e != api.OK {
		t.Fatalf("%q, printed of %s, is no tokens: %v", printed, show(s), e)
	}
	expectParse(t, l, 0, s, len(l), api.OK)
	l, _, _ = lex.All("{ a " + printed + "> 1")
	expectParse(t, l, 2, s, len(l)-2, api.OK)
}

// The models.

var (
	isName = regexp.MustCompile(`^[a-zA-Z_][a-zA-Z0-9_]{0,63}$`)
	// whole is a selector by its tokens' classes, however many matches it has.
	whole = regexp.MustCompile(`^W(\{(W[=!]T(,W[=!]T)*)?\})?$`)
)

// class is an octet for a token: w and t are words and texts that may not be.
func class(x api.Token) string {
	switch {
	case x.K == api.Word && isName.MatchString(x.S):
		return "W"
	case x.K == api.Word:
		return "w"
	case x.K == api.Text && len(x.S) <= 64:
		return "T"
	case x.K == api.Text:
		return "t"
	case x.K == api.Sign && x.S == "!=":
		return "!"
	case x.K == api.Sign && len(x.S) == 1 && strings.Contains("{},=", x.S):
		return x.S
	}
	return "?"
}

// mayBegin: can something be laid behind p, so that it is whole?
func mayBegin(p string) bool {
	return slices.ContainsFunc([]string{"", "}", "T}", "=T}", "W=T}"}, func(behind string) bool { return whole.MatchString(p + behind) })
}

// modelParse is Parse, by what may begin a selector.
func modelParse(l []api.Token, i int) (api.Sel, int, api.Errno) {
	if i < 0 || i >= len(l) {
		return api.Sel{}, min(max(i, 0), len(l)), api.ErrShort
	}
	p := ""
	for at := i; ; at++ {
		if whole.MatchString(p) && (p != "W" || at == len(l) || class(l[at]) != "{") {
			return modelSel(l[i:at]), at, api.OK
		}
		if at == len(l) {
			return api.Sel{}, at, api.ErrShort
		}
		c := class(l[at])
		ninth := strings.Count(p, "T") == 8 && strings.EqualFold(c, "t")
		switch {
		case mayBegin(p+c) && !ninth:
			p += c
		case mayBegin(p + strings.ToUpper(c)):
			return api.Sel{}, at, map[string]api.Errno{"w": api.ErrName, "t": api.ErrLarge, "T": api.ErrLarge}[c]
		default:
			return api.Sel{}, at, api.ErrForm
		}
	}
}

// modelSel is the selector of a whole one's tokens.
func modelSel(l []api.Token) api.Sel {
	s := selector(l[0].S)
	for k := 2; k+2 < len(l); k += 4 {
		s.M = append(s.M, api.Match{Name: l[k].S, Not: l[k+1].S == "!=", Value: l[k+2].S})
	}
	return s
}

func modelSane(s api.Sel) bool {
	for _, m := range s.M {
		if !isName.MatchString(m.Name) || len(m.Value) > 64 {
			return false
		}
	}
	return isName.MatchString(s.Name) && len(s.M) < 9
}

// modelFits is Fits, by a map.
func modelFits(s api.Sel, l []api.Pair) bool {
	values, last := map[string]string{}, ""
	for _, p := range l {
		if !isName.MatchString(p.Name) || len(p.Value) > 64 || p.Name <= last {
			return false
		}
		values[p.Name], last = p.Value, p.Name
	}
	if !modelSane(s) || len(l) > 16 || values["__name__"] != s.Name {
		return false
	}
	for _, m := range s.M {
		if m.Not == (values[m.Name] == m.Value) {
			return false
		}
	}
	return true
}
