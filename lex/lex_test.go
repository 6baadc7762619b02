package lex_test

import (
	"fmt"
	"math/rand"
	"regexp"
	"slices"
	"strings"
	"testing"

	"watchtower/api"
	"watchtower/lex"
)

const (
	letters = "abcdefghijklmnopqrstuvwxyzABCDEFGHIJKLMNOPQRSTUVWXYZ_"
	digits  = "0123456789"
	white   = " \t\r\n"
	most    = 65536 // tokens of a text
)

// allSigns are all that are told, and no others.
var allSigns = []string{"{", "}", "(", ")", ",", ":", ";", "=", "!=", "==", ">", ">=", "<", "<="}

func word(at int, s string) api.Token   { return api.Token{K: api.Word, At: at, S: s} }
func number(at int, s string) api.Token { return api.Token{K: api.Number, At: at, S: s} }
func text(at int, s string) api.Token   { return api.Token{K: api.Text, At: at, S: s} }
func sign(at int, s string) api.Token   { return api.Token{K: api.Sign, At: at, S: s} }

func tokens(l ...api.Token) []api.Token { return l }

// everyOctet are the 256 octets, each a text.
func everyOctet() []string {
	var list []string
	for c := range 256 {
		list = append(list, string([]byte{byte(c)}))
	}
	return list
}

// beginsNothing: is c one of those octets with which no token begins, whatever stands behind, and that are not passed over?
func beginsNothing(c string) bool {
	return !strings.Contains(letters+digits+white+`#"-!{}(),:;=<>`, c)
}

// P7.1

func TestExample(t *testing.T) {
	expectAll(t, "a>=1s# x", tokens(word(0, "a"), sign(1, ">="), number(3, "1s")), 8, api.OK)
}

func TestAllOfARuleFile(t *testing.T) {
	expectAll(t, "group g every 10ms {\n\trule Down: up{job=\"a b\"} == -0.5 for 20ms; # why\r\n}\n", tokens(
		word(0, "group"), word(6, "g"), word(8, "every"), number(14, "10ms"), sign(19, "{"),
		word(22, "rule"), word(27, "Down"), sign(31, ":"), word(33, "up"), sign(35, "{"), word(36, "job"), sign(39, "="), text(40, "a b"), sign(45, "}"),
		sign(47, "=="), number(50, "-0.5"), word(55, "for"), number(59, "20ms"), sign(63, ";"),
		sign(72, "}"),
	), 74, api.OK)
}

func TestAllOfNoTokens(t *testing.T) {
	for _, s := range []string{
		"", " ", "\t", "\r", "\n", " \t\r\n", "\n\r\t ", "\r\n\r\n", strings.Repeat(" ", 300), strings.Repeat("\n", 300),
		"#", "##", "# ", "# x", "#\n", "#\r\n", "#\r", "# x\n", "# x\r\n", " # x\n\t", "\n#", "#\n#", "#a\n#b", "#a\n \t#b\n\r\n", "#\"", "#\"\n", "#\\\n", "#\x00\xff\n", "#é", "# $ ! - .\n", "#a\r#b", "#a\rb", "#a\r\r\n", strings.Repeat("#\n", 300), strings.Repeat("#", 300),
	} {
		expectAll(t, s, nil, len(s), api.OK)
	}
}

// TestWhite: the four octets, and none that is like them.
func TestWhite(t *testing.T) {
	for _, c := range everyOctet() {
		if strings.Contains(white, c) {
			expectAll(t, c, nil, 1, api.OK)
			expectAll(t, c+c+"a"+c+"b"+c, tokens(word(2, "a"), word(4, "b")), 6, api.OK)
			expectAll(t, "1"+c+"2"+c+c+"="+c+"=", tokens(number(0, "1"), number(2, "2"), sign(5, "="), sign(7, "=")), 8, api.OK)
			expectAll(t, "!"+c+"=", nil, 0, api.ErrForm)
			expectAll(t, "-"+c+"1", nil, 0, api.ErrForm)
		}
	}
	for _, c := range []string{"\v", "\f", "\x85", "\xa0", "\x00", "\b", "\x1c", "\x1f", "\x7f", "\u0085", "\u00a0", "\u2028", "\u3000", "\ufeff", "\\", "\\n", "\\t"} {
		expectAll(t, c, nil, 0, api.ErrForm)
		expectAll(t, " "+c+" ", nil, 1, api.ErrForm)
		expectAll(t, "a"+c+"b", tokens(word(0, "a")), 1, api.ErrForm)
		expectAll(t, "1"+c, tokens(number(0, "1")), 1, api.ErrForm)
		expectAll(t, "#"+c+"\n"+c, nil, 2+len(c), api.ErrForm)
	}
}

// TestRemarks: a # and all up to the next LF, or the end; nothing else ends it.
func TestRemarks(t *testing.T) {
	for _, c := range everyOctet() {
		if c == "\n" {
			continue
		}
		expectAll(t, "#"+c, nil, 2, api.OK)
		expectAll(t, "#"+c+"b", nil, 3, api.OK)
		expectAll(t, "a#"+c+"b\nc#"+c, tokens(word(0, "a"), word(5, "c")), 8, api.OK)
		expectAll(t, "#x"+c+"\nc", tokens(word(4, "c")), 5, api.OK)
	}
	expectAll(t, "#\nb", tokens(word(2, "b")), 3, api.OK)
	expectAll(t, "a#b\rc", tokens(word(0, "a")), 5, api.OK)
	expectAll(t, "a#b\r\nc", tokens(word(0, "a"), word(5, "c")), 6, api.OK)
	expectAll(t, "a#\n\nb#\n#\n;", tokens(word(0, "a"), word(4, "b"), sign(9, ";")), 10, api.OK)
	expectAll(t, "# a\n \t# b\nc # d\n# e", tokens(word(10, "c")), 19, api.OK)
	// right behind each kind, and between octets that would be one
	expectAll(t, "1#2\n3", tokens(number(0, "1"), number(4, "3")), 5, api.OK)
	expectAll(t, "=#=\n=", tokens(sign(0, "="), sign(4, "=")), 5, api.OK)
	expectAll(t, "\"a\"#\"\n\"b\"", tokens(text(0, "a"), text(6, "b")), 9, api.OK)
	expectAll(t, "!#\n=", nil, 0, api.ErrForm)
	expectAll(t, "-#\n1", nil, 0, api.ErrForm)
	expectAll(t, "#\"\n$", nil, 3, api.ErrForm)
	expectAll(t, "\"#\n\"", nil, 0, api.ErrText)
}

// TestOctetsAlone: what comes of each.
func TestOctetsAlone(t *testing.T) {
	for _, c := range everyOctet() {
		switch {
		case strings.Contains(letters, c):
			expectAll(t, c, tokens(word(0, c)), 1, api.OK)
		case strings.Contains(digits, c):
			expectAll(t, c, tokens(number(0, c)), 1, api.OK)
		case slices.Contains(allSigns, c):
			expectAll(t, c, tokens(sign(0, c)), 1, api.OK)
		case strings.Contains(white+"#", c):
			expectAll(t, c, nil, 1, api.OK)
		case c == `"`:
			expectAll(t, c, nil, 0, api.ErrText)
		default:
			expectAll(t, c, nil, 0, api.ErrForm)
		}
	}
}

// TestOctetsBehind: what each octet is behind a word, a number, a "-" with a digit, and between two of a kind.
func TestOctetsBehind(t *testing.T) {
	for _, c := range everyOctet() {
		letter, digit := strings.Contains(letters, c), strings.Contains(digits, c)
		if letter || digit {
			expectAll(t, "a"+c, tokens(word(0, "a"+c)), 2, api.OK)
			expectAll(t, "_"+c+"z", tokens(word(0, "_"+c+"z")), 3, api.OK)
		}
		if letter || digit || c == "." {
			expectAll(t, "1"+c, tokens(number(0, "1"+c)), 2, api.OK)
			expectAll(t, "-1"+c, tokens(number(0, "-1"+c)), 3, api.OK)
			expectAll(t, "0"+c+"9", tokens(number(0, "0"+c+"9")), 3, api.OK)
		}
		if slices.Contains(allSigns, c) {
			expectAll(t, "a"+c+"b", tokens(word(0, "a"), sign(1, c), word(2, "b")), 3, api.OK)
			expectAll(t, "1"+c+"2", tokens(number(0, "1"), sign(1, c), number(2, "2")), 3, api.OK)
			expectAll(t, "-1"+c+"-2", tokens(number(0, "-1"), sign(2, c), number(3, "-2")), 5, api.OK)
			expectAll(t, "\"a\""+c+"\"b\"", tokens(text(0, "a"), sign(3, c), text(4, "b")), 7, api.OK)
		}
		if beginsNothing(c) || c == "!" || c == "-" {
			if c != "." {
				expectAll(t, "1"+c, tokens(number(0, "1")), 1, api.ErrForm)
			}
			expectAll(t, "a"+c, tokens(word(0, "a")), 1, api.ErrForm)
			expectAll(t, "a1"+c+"a", tokens(word(0, "a1")), 2, api.ErrForm)
		}
	}
}

func TestSideBySide(t *testing.T) {
	for s, want := range map[string][]api.Token{
		"a-1":             {word(0, "a"), number(1, "-1")},
		"a1":              {word(0, "a1")},
		"1a":              {number(0, "1a")},
		"1_":              {number(0, "1_")},
		"_1":              {word(0, "_1")},
		"1-2":             {number(0, "1"), number(1, "-2")},
		"-1-2-3":          {number(0, "-1"), number(2, "-2"), number(4, "-3")},
		"a\"b\"c":         {word(0, "a"), text(1, "b"), word(4, "c")},
		"1\"b\"2":         {number(0, "1"), text(1, "b"), number(4, "2")},
		"\"a\"\"b\"":      {text(0, "a"), text(3, "b")},
		"\"\"\"\"":        {text(0, ""), text(2, "")},
		"\"a\"-1":         {text(0, "a"), number(3, "-1")},
		"up{x=\"1\"}>2;":  {word(0, "up"), sign(2, "{"), word(3, "x"), sign(4, "="), text(5, "1"), sign(8, "}"), sign(9, ">"), number(10, "2"), sign(11, ";")},
		"x!=\"a\"":        {word(0, "x"), sign(1, "!="), text(3, "a")},
		"a<-1":            {word(0, "a"), sign(1, "<"), number(2, "-1")},
		"a<=-1":           {word(0, "a"), sign(1, "<="), number(3, "-1")},
		"a=1b=2":          {word(0, "a"), sign(1, "="), number(2, "1b"), sign(4, "="), number(5, "2")},
		"1e-5":            {number(0, "1e"), number(2, "-5")},
		"1e5":             {number(0, "1e5")},
		"group_9every_1m": {word(0, "group_9every_1m")},
	} {
		expectAll(t, s, want, len(s), api.OK)
	}
	expectAll(t, "1-a", tokens(number(0, "1")), 1, api.ErrForm)
	expectAll(t, "a+1", tokens(word(0, "a")), 1, api.ErrForm)
	expectAll(t, "1+1", tokens(number(0, "1")), 1, api.ErrForm)
	expectAll(t, "aéb", tokens(word(0, "a")), 1, api.ErrForm)
	expectAll(t, "1é", tokens(number(0, "1")), 1, api.ErrForm)
	expectAll(t, "1\u0661", tokens(number(0, "1")), 1, api.ErrForm)
	expectAll(t, "a\u212a", tokens(word(0, "a")), 1, api.ErrForm)
}

func TestMinus(t *testing.T) {
	for _, c := range everyOctet() {
		if strings.Contains(digits, c) {
			expectAll(t, "-"+c, tokens(number(0, "-"+c)), 2, api.OK)
			expectAll(t, "a -"+c+"-"+c+" b", tokens(word(0, "a"), number(2, "-"+c), number(4, "-"+c), word(7, "b")), 8, api.OK)
		} else {
			expectAll(t, "-"+c, nil, 0, api.ErrForm)
			expectAll(t, "-"+c+"1", nil, 0, api.ErrForm)
			expectAll(t, "a -"+c, tokens(word(0, "a")), 2, api.ErrForm)
		}
	}
	for _, s := range []string{"-", "--", "--1", "-a", "-.5", "-_1", "- 1", "-\n1", "-\"1\"", "-=", "-\x00", "-é"} {
		expectAll(t, s, nil, 0, api.ErrForm)
	}
	expectAll(t, "1--1", tokens(number(0, "1")), 1, api.ErrForm)
	expectAll(t, "-1-", tokens(number(0, "-1")), 2, api.ErrForm)
	expectAll(t, "-1.-2", tokens(number(0, "-1."), number(3, "-2")), 5, api.OK)
}

func TestNumbers(t *testing.T) {
	for _, s := range []string{"0", "00", "007.50", "1.5", "1.", "1..", "1..2", "1.2.3", "1.5.x_", "1s", "1h30m", "1_000", "0x1F", "9z.Z_", "123456789012345678901234567890", "1.a", "1a.", "1_.", "-0", "-1.5", "-007.", "-1h", "-9._a"} {
		expectAll(t, s, tokens(number(0, s)), len(s), api.OK)
		expectAll(t, " \n"+s+" "+s+"\t", tokens(number(2, s), number(3+len(s), s)), 2*len(s)+4, api.OK)
	}
	for s, ahead := range map[string][]api.Token{".": nil, ".5": nil, "..1": nil, "a.b": {word(0, "a")}, "a.5": {word(0, "a")}, "a1.5": {word(0, "a1")}, "_.": {word(0, "_")}, "=.5": {sign(0, "=")}, "\"\".5": {text(0, "")}, "1 .5": {number(0, "1")}} {
		expectAll(t, s, ahead, strings.IndexByte(s, '.'), api.ErrForm)
	}
}

func TestWords(t *testing.T) {
	for _, s := range []string{"a", "Z", "_", "__", "__name__", "a1", "A9z", "_0", "rule", "x_1_y", letters, "z" + digits, strings.Repeat("a", 65), strings.Repeat("_", 70000)} {
		expectAll(t, s, tokens(word(0, s)), len(s), api.OK)
		expectAll(t, "\t"+s+"\r"+s+";", tokens(word(1, s), word(2+len(s), s), sign(2+2*len(s), ";")), 3+2*len(s), api.OK)
	}
}

// TestSignsAheadOfSigns: two octets are one sign where there is one.
func TestSignsAheadOfSigns(t *testing.T) {
	for _, x := range allSigns {
		expectAll(t, x, tokens(sign(0, x)), len(x), api.OK)
		expectAll(t, " "+x+" "+x, tokens(sign(1, x), sign(2+len(x), x)), 2+2*len(x), api.OK)
		for _, y := range allSigns {
			expectAll(t, x+" "+y, tokens(sign(0, x), sign(len(x)+1, y)), len(x)+1+len(y), api.OK)
			want := tokens(sign(0, x), sign(len(x), y))
			if strings.Contains("= > <", x) && y[0] == '=' {
				want = tokens(sign(0, x+"="))
				if y == "==" {
					want = append(want, sign(2, "="))
				}
			}
			expectAll(t, x+y, want, len(x+y), api.OK)
		}
	}
	expectAll(t, "!==", tokens(sign(0, "!="), sign(2, "=")), 3, api.OK)
	expectAll(t, "!===", tokens(sign(0, "!="), sign(2, "==")), 4, api.OK)
	expectAll(t, "=>", tokens(sign(0, "="), sign(1, ">")), 2, api.OK)
	expectAll(t, "=<=", tokens(sign(0, "="), sign(1, "<=")), 3, api.OK)
	expectAll(t, "===", tokens(sign(0, "=="), sign(2, "=")), 3, api.OK)
	expectAll(t, "====", tokens(sign(0, "=="), sign(2, "==")), 4, api.OK)
	expectAll(t, "=====", tokens(sign(0, "=="), sign(2, "=="), sign(4, "=")), 5, api.OK)
	expectAll(t, "==!=", tokens(sign(0, "=="), sign(2, "!=")), 4, api.OK)
	expectAll(t, "=!=", tokens(sign(0, "="), sign(1, "!=")), 3, api.OK)
	expectAll(t, ">>=", tokens(sign(0, ">"), sign(1, ">=")), 3, api.OK)
	expectAll(t, "<>", tokens(sign(0, "<"), sign(1, ">")), 2, api.OK)
	expectAll(t, ":=", tokens(sign(0, ":"), sign(1, "=")), 2, api.OK)
	expectAll(t, "{=}=(=)=,=;=", tokens(sign(0, "{"), sign(1, "="), sign(2, "}"), sign(3, "="), sign(4, "("), sign(5, "="), sign(6, ")"), sign(7, "="), sign(8, ","), sign(9, "="), sign(10, ";"), sign(11, "=")), 12, api.OK)
	for _, c := range everyOctet() {
		if c != "=" {
			expectAll(t, "!"+c, nil, 0, api.ErrForm)
			expectAll(t, "!"+c+"=", nil, 0, api.ErrForm)
			expectAll(t, "!=!"+c, tokens(sign(0, "!=")), 2, api.ErrForm)
		}
		if beginsNothing(c) {
			for _, x := range []string{"=", ">", "<"} { // an octet between them parts two that would be one
				expectAll(t, x+c+"=", tokens(sign(0, x)), 1, api.ErrForm)
			}
			expectAll(t, c+"=", nil, 0, api.ErrForm)
		}
	}
	expectAll(t, "!", nil, 0, api.ErrForm)
	expectAll(t, "=!", tokens(sign(0, "=")), 1, api.ErrForm)
	expectAll(t, "!=!", tokens(sign(0, "!=")), 2, api.ErrForm)
}

func TestTexts(t *testing.T) {
	for s, want := range map[string]string{
		`""`: "", `"a"`: "a", `" "`: " ", `"#"`: "#", `" # x"`: " # x", `"a b"`: "a b", `"1"`: "1", `"="`: "=", `"{}(),:;"`: "{}(),:;", `"-"`: "-", `"!"`: "!", `"$"`: "$", `"'"`: "'",
		"\"\t\r \"": "\t\r ", "\"\x00\x85\xa0\xff\"": "\x00\x85\xa0\xff", `"é"`: "é", "\"\v\f\"": "\v\f", "\"a\r\"": "a\r",
		`"\\"`: `\`, `"\""`: `"`, `"\n"`: "\n", `"\\\""`: `\"`, `"\"\\"`: `"\`, `"\\\\"`: `\\`, `"\\n"`: `\n`, `"\\\n"`: "\\\n", `"\n\n"`: "\n\n", `"\nn"`: "\nn", `"n"`: "n", `"a\nb"`: "a\nb", `"\"a\""`: `"a"`, `"\n\"\\"`: "\n\"\\", `"#\n#"`: "#\n#", `"a\\"`: `a\`, `"\\a"`: `\a`, `"\"\""`: `""`, `"a\\\\\"b\nc"`: "a\\\\\"b\nc",
	} {
		expectAll(t, s, tokens(text(0, want)), len(s), api.OK)
		expectAll(t, "a "+s, tokens(word(0, "a"), text(2, want)), 2+len(s), api.OK)
		expectAll(t, s+s+"\n;", tokens(text(0, want), text(len(s), want), sign(2*len(s)+1, ";")), 2*len(s)+2, api.OK)
		expectAll(t, "1"+s+"a", tokens(number(0, "1"), text(1, want), word(1+len(s), "a")), 2+len(s), api.OK)
	}
	for _, c := range everyOctet() {
		if !strings.Contains("\"\\\n", c) {
			expectAll(t, `"`+c+`"`, tokens(text(0, c)), 3, api.OK)
			expectAll(t, `"a`+c+`b"`, tokens(text(0, "a"+c+"b")), 5, api.OK)
			expectAll(t, `"\\`+c+`\""`, tokens(text(0, `\`+c+`"`)), 7, api.OK)
		}
	}
}

// TestTextsOfManyOctets: how many octets a token has is not bounded.
func TestTextsOfManyOctets(t *testing.T) {
	const n = 1 << 20
	for s, want := range map[string]string{"a": "a", " ": " ", `\n`: "\n", `\\`: `\`, `\"`: `"`, "\xff": "\xff", "#": "#"} {
		expectAll(t, `"`+strings.Repeat(s, n)+`"`, tokens(text(0, strings.Repeat(want, n))), n*len(s)+2, api.OK)
		expectAll(t, `"`+strings.Repeat(s, n), nil, 0, api.ErrText)
		expectAll(t, `a"`+strings.Repeat(s, n)+`\x`, tokens(word(0, "a")), n*len(s)+2, api.ErrForm)
	}
	for _, s := range []string{strings.Repeat(" ", n), strings.Repeat("\r\n", n), strings.Repeat("#\n", n), strings.Repeat("#", n)} {
		expectAll(t, s, nil, len(s), api.OK)
		expectAll(t, s+"\n$", nil, len(s)+1, api.ErrForm)
		expectAll(t, s+"\n;", tokens(sign(len(s)+1, ";")), len(s)+2, api.OK)
	}
	expectAll(t, strings.Repeat("1", n), tokens(number(0, strings.Repeat("1", n))), n, api.OK)
	expectAll(t, "-1"+strings.Repeat(".", n)+"a", tokens(number(0, "-1"+strings.Repeat(".", n)+"a")), n+3, api.OK)
}

// TestPlaces: where each token begins, of tokens in any order with anything that is passed over between.
func TestPlaces(t *testing.T) {
	r := rand.New(rand.NewSource(1))
	pick := func(list ...string) string { return list[r.Intn(len(list))] }
	for range 3000 {
		var s string
		var want []api.Token
		for range r.Intn(12) {
			s += pick(" ", "\n", "\t\r\n", "#\n", "# x\r\n ", " #\"\n", "   ")
			at := len(s)
			switch r.Intn(4) {
			case 0:
				want = append(want, word(at, pick("a", "group", "_9", "Z", letters)))
			case 1:
				want = append(want, number(at, pick("1", "-1", "10ms", "-0.5", "1.2.3_x")))
			case 2:
				want = append(want, text(at, pick("", "a", "\n", `\`, `"`, "# \n", "é\xff", "a\\\"b")))
			case 3:
				want = append(want, sign(at, allSigns[r.Intn(len(allSigns))]))
			}
			s += textOf(want[len(want)-1])
		}
		s += pick("", " ", "\n", "# end", "#\n")
		expectAll(t, s, want, len(s), api.OK)
	}
}

// P7.2

// TestNothingBegins: each octet with which nothing begins, alone, ahead of tokens, and behind some; also two of them, of which the first one is told.
func TestNothingBegins(t *testing.T) {
	count := 0
	for _, c := range everyOctet() {
		if !beginsNothing(c) {
			continue
		}
		count++
		expectAll(t, c, nil, 0, api.ErrForm)
		expectAll(t, c+c, nil, 0, api.ErrForm)
		expectAll(t, c+"a 1 = \"x\"", nil, 0, api.ErrForm)
		expectAll(t, " #\n"+c, nil, 3, api.ErrForm)
		expectAll(t, "a 1 = \"x\" "+c, tokens(word(0, "a"), number(2, "1"), sign(4, "="), text(6, "x")), 10, api.ErrForm)
		expectAll(t, "a 1 = \"x\""+c+" b \""+c, tokens(word(0, "a"), number(2, "1"), sign(4, "="), text(6, "x")), 9, api.ErrForm)
		expectAll(t, ";"+c+"\n\"", tokens(sign(0, ";")), 1, api.ErrForm)
		expectAll(t, "; \" \n"+c, tokens(sign(0, ";")), 2, api.ErrText)
		expectAll(t, "- "+c, nil, 0, api.ErrForm)
		expectAll(t, "a ! "+c, tokens(word(0, "a")), 2, api.ErrForm)
	}
	if want := 256 - 53 - 10 - 4 - 14; count != want {
		t.Errorf("%d octets begin nothing, not %d", count, want)
	}
}

func TestTextsThatDoNotEnd(t *testing.T) {
	for _, s := range []string{
		`"`, `"a`, `"a b # c`, `"\"`, `"\\`, `"\n`, `"\\\"`, `"a\"`, "\"\x00", `"é`, // at the end
		"\"\n", "\"\n\"", "\"a\nb\"", "\"a\r\n\"", "\"\\\\\n\"", "\"\\n\n\"", "\"\\\"\n\"", "\" \n", "\"a\n\\x\"", "\"\n\n", // at an LF
		`"\`, `"a\`, `"\\\`, `"\"\`, `"\n\`, "\"a\n\\", // behind a backslash
	} {
		expectAll(t, s, nil, 0, api.ErrText)
		expectAll(t, " \n"+s, nil, 2, api.ErrText)
		expectAll(t, "a=1"+s, tokens(word(0, "a"), sign(1, "="), number(2, "1")), 3, api.ErrText)
		expectAll(t, `"x" "y"`+s, tokens(text(0, "x"), text(4, "y")), 7, api.ErrText)
		expectAll(t, "#\"\n"+s, nil, 3, api.ErrText)
	}
	expectAll(t, `"a""`, tokens(text(0, "a")), 3, api.ErrText)
	expectAll(t, `"a" b"`, tokens(text(0, "a"), word(4, "b")), 5, api.ErrText)
	expectAll(t, "\"a\"\n\"b\n\"", tokens(text(0, "a")), 4, api.ErrText)
}

// TestWrongBackslashes: all octets but three.
func TestWrongBackslashes(t *testing.T) {
	count := 0
	for _, c := range everyOctet() {
		if strings.Contains("\\\"n", c) {
			continue
		}
		count++
		for _, behind := range []string{"", `"`, "\"a\"", "\n", "\\", "\\x", "x", strings.Repeat("x", 300) + `"`} {
			expectAll(t, `"\`+c+behind, nil, 1, api.ErrForm)
			expectAll(t, `"ab\`+c+behind, nil, 3, api.ErrForm)
			expectAll(t, `"\\\`+c+behind, nil, 3, api.ErrForm)
			expectAll(t, `"\"\n\`+c+behind, nil, 5, api.ErrForm)
			expectAll(t, `a "b" "c\`+c+behind, tokens(word(0, "a"), text(2, "b")), 8, api.ErrForm)
		}
	}
	if count != 253 {
		t.Errorf("%d octets may not stand behind a backslash, not 253", count)
	}
}

// TestFirstOfTextsErrors: whichever is come to first.
func TestFirstOfTextsErrors(t *testing.T) {
	for s, at := range map[string]int{"\"\\x": 1, "\"a\\x": 2, "\"\\\n": 1, "\"\\\n\"": 1, "\"a\\\n\"": 2, "\"\\x\n": 1, "\"\\x\\": 1, "\"\\x\\y\"": 1, "\"\\\\\\x": 3, "\"\\\r\n": 1, "\"a\\ \n": 2, "\"\\N\"": 1, "\"\\t\"": 1, "\"\\r\"": 1, "\"\\0\"": 1, "\"\\'\"": 1, "\"\\#\"": 1} {
		expectAll(t, s, nil, at, api.ErrForm)
		expectAll(t, "a;"+s, tokens(word(0, "a"), sign(1, ";")), at+2, api.ErrForm)
	}
	for _, s := range []string{"\"\n\\x\"", "\"a\n\\\n", "\"\n\\", "\"\\n\n\\x\"", "\"\\\\\n\\x"} {
		expectAll(t, s, nil, 0, api.ErrText)
		expectAll(t, "a;"+s, tokens(word(0, "a"), sign(1, ";")), 2, api.ErrText)
	}
}

// many are so many tokens in a text, of every kind and one octet ahead of the next one's place at least.
func many(n int) (string, []api.Token) {
	var b strings.Builder
	var list []api.Token
	kinds := tokens(word(0, "ab"), number(0, "-1"), text(0, "\n"), sign(0, ","), sign(0, "!="))
	for i := range n {
		x := kinds[i%len(kinds)]
		x.At = b.Len()
		list = append(list, x)
		b.WriteString(textOf(x) + " ")
	}
	return b.String(), list
}

func TestManyTokens(t *testing.T) {
	for _, n := range []int{most - 1, most} {
		s, list := many(n)
		for _, behind := range []string{"", " ", "\t\r\n", "#", " # x", "#x\n", "\n#\"\n # $\r\n", strings.Repeat(" ", 1000)} {
			expectAll(t, s+behind, list, len(s+behind), api.OK)
		}
	}
	s, list := many(most - 1)
	expectAll(t, s+"$", list, len(s), api.ErrForm)
	expectAll(t, s+`"`, list, len(s), api.ErrText)
	expectAll(t, s+`"a\x`, list, len(s)+2, api.ErrForm)
	expectAll(t, s+"a$", append(list, word(len(s), "a")), len(s)+1, api.ErrLarge)
	expectAll(t, s+"a\n#\n\"", append(list, word(len(s), "a")), len(s)+4, api.ErrLarge)
}

// TestTooManyTokens: ahead of all that is wrong with the one that is too many, and of what stands behind it.
func TestTooManyTokens(t *testing.T) {
	s, list := many(most)
	for _, ahead := range []string{"", "# $\r\n\t"} {
		for _, behind := range []string{"a", "1", "-1", `"x"`, `""`, ";", "!=", "a b c", "$", "\x00", "\xff", "-", "- 1", "!", ".5", "\\", `"`, "\"\n", `"\`, `"\x"`, "\"a\\\n", "a$", "$ a", "é"} {
			expectAll(t, s+ahead+behind, list, len(s+ahead), api.ErrLarge)
		}
	}
	for _, n := range []int{most + 1, most + 2, 2 * most} {
		s, all := many(n)
		expectAll(t, s, all[:most], all[most].At, api.ErrLarge)
	}
	for x, want := range map[string]api.Token{",": sign(0, ","), ";": sign(0, ";"), `""`: text(0, ""), "!=": sign(0, "!="), "==": sign(0, "==")} { // with nothing between
		var list []api.Token
		for i := range most {
			want.At = i * len(x)
			list = append(list, want)
		}
		expectAll(t, strings.Repeat(x, most), list, most*len(x), api.OK)
		expectAll(t, strings.Repeat(x, most+1), list, most*len(x), api.ErrLarge)
		expectAll(t, strings.Repeat(x, most)+"$", list, most*len(x), api.ErrLarge)
	}
}

// P7.3

func TestQuote(t *testing.T) {
	for s, want := range map[string]string{
		"": `""`, "a": `"a"`, `\`: `"\\"`, `"`: `"\""`, "\n": `"\n"`, `\n`: `"\\n"`, `""`: `"\"\""`, `\\`: `"\\\\"`, `\"`: `"\\\""`, "\n\n": `"\n\n"`, "\r\n": "\"\r\\n\"",
		"a\\\"\nb\t": "\"a\\\\\\\"\\nb\t\"", "a b # c": `"a b # c"`, "n": `"n"`, "\\\n": `"\\\n"`, "é\xff\x00": "\"é\xff\x00\"", "a'b": `"a'b"`, "\t\r\v\x7f\u2028": "\"\t\r\v\x7f\u2028\"",
	} {
		if got := lex.Quote(s); got != want {
			t.Errorf("Quote(%q) is %q, not %q", s, got, want)
		}
		expectQuoted(t, s)
	}
	for _, c := range everyOctet() {
		want := c
		switch c {
		case "\n":
			want = `\n`
		case "\\", "\"":
			want = `\` + c
		}
		if got := lex.Quote(c); got != `"`+want+`"` {
			t.Errorf("Quote(%q) is %q", c, got)
		}
		if got := lex.Quote("x" + c + c + "y"); got != `"x`+want+want+`y"` {
			t.Errorf("Quote of two %q is %q", c, got)
		}
		expectQuoted(t, c)
	}
}

func TestQuoteOfManyOctets(t *testing.T) {
	r := rand.New(rand.NewSource(2))
	for _, n := range []int{2, 10, 100, 1000, 70000, 1 << 20} {
		b := make([]byte, n)
		r.Read(b)
		expectQuoted(t, string(b))
		for _, s := range []string{"a", "\n", `\`, `"`, "\xff"} {
			expectQuoted(t, strings.Repeat(s, n))
		}
	}
	expectQuoted(t, strings.Join(everyOctet(), ""))
}

func TestJoin(t *testing.T) {
	for want, l := range map[string][]api.Token{
		"":               nil,
		"a":              {word(0, "a")},
		"-1.5":           {number(0, "-1.5")},
		">=":             {sign(0, ">=")},
		`"a"`:            {text(0, "a")},
		`""`:             {text(0, "")},
		`"" ""`:          {text(0, ""), text(0, "")},
		"a 1 \"x\" ;":    {word(0, "a"), number(0, "1"), text(0, "x"), sign(0, ";")},
		"a b":            {word(0, "a"), word(0, "b")},
		"= =":            {sign(0, "="), sign(0, "=")},
		"1 -2 -3":        {number(9, "1"), number(5, "-2"), number(-1, "-3")}, // wherever they are
		`a "b\"\\\n c";`: {word(0, "a"), {K: 99, S: `"b\"\\\n c";`}},
	} {
		expectJoin(t, l, want)
	}
	expectJoin(t, []api.Token{}, "")
}

// TestJoinOfNoTokens: what is none of the kinds, or not of its kind's form, is a text as it stands, but for a Text.
func TestJoinOfNoTokens(t *testing.T) {
	for _, k := range []int{0, 5, -1, 1 << 60, -1 << 60, api.Word, api.Number, api.Sign} {
		for _, s := range []string{"", "a\n\\\"b", " ", "$", "\xff", "é", strings.Repeat("x", 70000)} {
			x := api.Token{K: k, At: -1 << 60, S: s}
			expectJoin(t, tokens(x), s)
			expectJoin(t, tokens(x, x, text(0, s), x), s+" "+s+" "+modelQuote(s)+" "+s)
		}
	}
	expectJoin(t, make([]api.Token, 4), "   ")
	expectJoin(t, make([]api.Token, 70000), strings.Repeat(" ", 69999))
}

// P7.4

// TestJoinedTokensAreTheSame: what Join makes of tokens is read again as the same ones, each where Join laid it.
func TestJoinedTokensAreTheSame(t *testing.T) {
	for _, s := range []string{"", "a", "a-1", "a\"b\"c", "!==", "=>", "===", "a>=1s# x", "1-2-3", "\"\"\"\"", "1e-5", "\"a\\n\\\\\\\"#\"#\n;", "x!=\"\n", "a$b", "\"\\n\"\"\\\\n\""} {
		expectSameAgain(t, s)
	}
	s, _ := many(most + 1)
	expectSameAgain(t, s)
	expectSameAgain(t, s[:len(s)-3])
}

// All texts

// TestFewOctets: all of up to two octets, and all of up to some more of those on which something hangs.
func TestFewOctets(t *testing.T) {
	for _, x := range everyOctet() {
		expectAsModel(t, x)
		for _, y := range everyOctet() {
			expectAsModel(t, x+y)
		}
	}
	for _, x := range []struct {
		alphabet string
		n        int
	}{{"an_1-.\"\\\n #=!<,\x00\r", 4}, {"\"\\n\n#a", 6}, {"=!> ", 6}, {"-1.a_ ", 6}} {
		list := []string{""}
		for from := 0; len(list[from]) < x.n; from++ {
			for i := range x.alphabet {
				list = append(list, list[from]+x.alphabet[i:i+1])
			}
		}
		for _, s := range list {
			expectAsModel(t, s)
		}
	}
}

// TestAnyTexts are of pieces laid side by side.
func TestAnyTexts(t *testing.T) {
	pieces := append(everyOctet(), allSigns...)
	for range 12 {
		pieces = append(pieces, " ", "\n", "a", "1", "-", ".", `"`, `\`, `\n`, `"x"`, "#", "=", "!", "ab_1", "-1.5s", "\"a\\nb\"", "# x\n", "é")
	}
	r := rand.New(rand.NewSource(3))
	for range 20000 {
		s := ""
		for range r.Intn(20) {
			s += pieces[r.Intn(len(pieces))]
		}
		expectAsModel(t, s)
	}
}

// TestChangedRuleFile: a rule file cut at each place, and with each octet changed, left out or laid twice.
func TestChangedRuleFile(t *testing.T) {
	const s = "group g every 1m { # x\n rule A: up{a=\"b\\n\\\\\",c!=\"\\\"\"}>=-1.5 for 2s; }"
	for at := range s {
		expectAsModel(t, s[:at])
		expectAsModel(t, s[at:])
		expectAsModel(t, s[:at]+s[at+1:])
		expectAsModel(t, s[:at+1]+s[at:])
		for _, c := range everyOctet() {
			expectAsModel(t, s[:at]+c+s[at+1:])
		}
	}
}

// TestNothingIsKept: what is asked between two calls does not matter.
func TestNothingIsKept(t *testing.T) {
	full, _ := many(most)
	for _, between := range []string{"", "$", `"`, `"\x`, "a b c", full, full + "$"} {
		l, _, _ := lex.All(between)
		lex.Quote(between)
		lex.Join(l)
		expectAll(t, "a>=1s# x", tokens(word(0, "a"), sign(1, ">="), number(3, "1s")), 8, api.OK)
		expectAll(t, "a \"b", tokens(word(0, "a")), 2, api.ErrText)
		expectJoin(t, tokens(word(0, "a"), text(0, "\n")), `a "\n"`)
	}
}

// TestAnswersAreApart: a list that was answered stays as it was, whatever is laid behind another one.
func TestAnswersAreApart(t *testing.T) {
	one, _, _ := lex.All("a b c d e")
	two, _, _ := lex.All("a b c d e")
	was := slices.Clone(one)
	_ = append(two, word(0, "z"))
	clear(two)
	if !slices.Equal(one, was) {
		t.Errorf("%v has become %v", was, one)
	}
}

// P1: no arguments make a call panic, or go on for ever; and all hold against a model.
func FuzzCalls(f *testing.F) {
	for _, s := range []string{"", "a>=1s# x", "a-1 \"b\\n\\\\\\\"\" !== => # x\r\n;", "\"a\\x\"", "\"a\nb", "\"\\", "1.5.x_ -2 .5", "$", "é\xff"} {
		f.Add(s, uint8(0))
	}
	f.Fuzz(func(t *testing.T, s string, k uint8) {
		if len(s) > 1<<12 {
			return
		}
		expectAsModel(t, s)
		expectQuoted(t, s)
		x := api.Token{K: int(k), S: s}
		expectJoin(t, tokens(x, x), textOf(x)+" "+textOf(x))
	})
}

// expectAll asks All twice: what it answers hangs on s alone.
func expectAll(t *testing.T, s string, want []api.Token, at int, e api.Errno) {
	t.Helper()
	for range 2 {
		got, gotAt, gotE := lex.All(s)
		if !slices.Equal(got, want) || gotAt != at || gotE != e {
			t.Fatalf("All of %d octets %.80q is %s, %d, %v, not %s, %d, %v", len(s), s, show(got), gotAt, gotE, show(want), at, e)
		}
	}
}

// show has the last ones of many tokens alone.
func show(l []api.Token) string {
	return fmt.Sprintf("%d tokens, the last ones %.300q", len(l), fmt.Sprint(l[max(0, len(l)-8):]))
}

// expectJoin asks Join; what is handed in stays as it is, and so does the room behind it.
func expectJoin(t *testing.T, l []api.Token, want string) {
	t.Helper()
	given := append(slices.Clone(l), word(0, "behind"), text(0, "room"))
	was := slices.Clone(given)
	if got := lex.Join(given[:len(l)]); got != want {
		t.Errorf("Join of %s is %.80q, not %.80q", show(l), got, want)
	}
	if got := lex.Join(l); got != want {
		t.Errorf("Join of %s, without room behind, is %.80q, not %.80q", show(l), got, want)
	}
	if !slices.Equal(given, was) {
		t.Errorf("%s, handed in to Join, was changed to %s", show(was), show(given))
	}
}

// expectQuoted: Quote is as the model's, and is read as one Text with the same octets.
func expectQuoted(t *testing.T, s string) {
	t.Helper()
	q := lex.Quote(s)
	if q != modelQuote(s) {
		t.Errorf("Quote of %d octets %.80q is %.80q", len(s), s, q)
	}
	expectAll(t, q, tokens(text(0, s)), len(q), api.OK)
	expectAll(t, " "+q+";", tokens(text(1, s), sign(1+len(q), ";")), len(q)+2, api.OK)
}

// expectSameAgain: the tokens that All tells of s, be there an error behind them or not, are read again of what Join makes of them, which is joined as the same text.
func expectSameAgain(t *testing.T, s string) {
	t.Helper()
	l, _, _ := lex.All(s)
	want, at := slices.Clone(l), 0
	for i := range want {
		want[i].At = at
		at += len(textOf(want[i])) + 1
	}
	joined := lex.Join(l)
	expectAll(t, joined, want, len(joined), api.OK)
	if got := lex.Join(want); got != joined {
		t.Errorf("the tokens of %.80q are joined as %.80q, and those as %.80q", s, joined, got)
	}
}

func modelQuote(s string) string {
	return `"` + strings.NewReplacer(`\`, `\\`, `"`, `\"`, "\n", `\n`).Replace(s) + `"`
}

// textOf is what Join lays for a token.
func textOf(x api.Token) string {
	if x.K == api.Text {
		return modelQuote(x.S)
	}
	return x.S
}

// The forms of P7.1, each at the beginning of what is left.
var (
	passedOver = regexp.MustCompile(`^(?:[ \t\r\n]|#[^\n]*)*`)
	inText     = regexp.MustCompile(`^"(?:[^"\\\n]|\\[\\"n])*`)
	forms      = map[int]*regexp.Regexp{
		api.Word:   regexp.MustCompile(`^[a-zA-Z_][a-zA-Z0-9_]*`),
		api.Number: regexp.MustCompile(`^-?[0-9][a-zA-Z0-9_.]*`),
		api.Sign:   regexp.MustCompile(`^(?:!=|==|>=|<=|[{}(),:;=><])`),
	}
)

// modelAll is All, by regular expressions, of fewer than 65537 tokens.
func modelAll(s string) ([]api.Token, int, api.Errno) {
	var list []api.Token
	at := len(passedOver.FindString(s))
	for at < len(s) {
		left := s[at:]
		k, size := 0, 0
		for kind, form := range forms {
			if found := form.FindString(left); found != "" {
				k, size = kind, len(found)
			}
		}
		said := left[:size]
		if left[0] == '"' {
			k, size = api.Text, len(inText.FindString(left))
			if size == len(left) || left[size] == '\n' || left[size:] == `\` {
				return list, at, api.ErrText
			}
			if left[size] == '\\' {
				return list, at + size, api.ErrForm
			}
			said = strings.NewReplacer(`\\`, `\`, `\"`, `"`, `\n`, "\n").Replace(left[1:size])
			size++
		}
		if k == 0 {
			return list, at, api.ErrForm
		}
		list = append(list, api.Token{K: k, At: at, S: said})
		at += size
		at += len(passedOver.FindString(s[at:]))
	}
	return list, len(s), api.OK
}

// expectAsModel asks All of s, and whether its tokens, joined, are the same.
func expectAsModel(t *testing.T, s string) {
	t.Helper()
	list, at, e := modelAll(s)
	expectAll(t, s, list, at, e)
	expectSameAgain(t, s)
}
