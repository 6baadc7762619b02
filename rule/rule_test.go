package rule_test

import (
	"fmt"
	"maps"
	"math"
	"math/rand"
	"slices"
	"strings"
	"testing"

	"watchtower/api"
	"watchtower/cond"
	"watchtower/dur"
	"watchtower/label"
	"watchtower/lex"
	"watchtower/rule"
)

func word(s string) api.Token   { return api.Token{K: api.Word, S: s} }
func number(s string) api.Token { return api.Token{K: api.Number, S: s} }
func text(s string) api.Token   { return api.Token{K: api.Text, S: s} }
func sign(s string) api.Token   { return api.Token{K: api.Sign, S: s} }

func asks(name string, op, v int, m ...api.Match) api.Expr {
	return api.Expr{S: api.Sel{Name: name, M: m}, Op: op, V: v}
}

// pairs are made of names and values, one behind the other.
func pairs(list ...string) []api.Pair {
	var l []api.Pair
	for two := range slices.Chunk(list, 2) {
		l = append(l, api.Pair{Name: two[0], Value: two[1]})
	}
	return l
}

var (
	longest = strings.Repeat("x", 64)
	longer  = strings.Repeat("x", 65)
	down    = asks("up", api.Equal, 0)
	// reserved are the names that rules may not use.
	reserved = []string{"__name__", "alertname", "alertstate"}
	names    = []string{"Down", "a", "_", "A1", "for", "keep", "labels", "rule", "__name__", "alertname", "alertstate", longest}
	noNames  = []string{"", "1", "1a", "a b", "a-b", " a", "a ", "é", "a\x00", "a\n", ":", longer, strings.Repeat("x", 1<<12)}
	// questions have their texts.
	questions = []struct {
		x       api.Expr
		printed string
	}{
		{down, `up == 0`},
		{asks("for", api.More, 1), `for > 0.001`},
		{asks("__name__", api.MoreSame, -1500), `__name__ >= -1.5`},
		{asks("up", api.Less, 1<<53, api.Match{Name: "job", Value: "a\"\\\n;"}), `up{job="a\"\\\n;"} < 9007199254740.992`},
		{asks("labels", api.LessSame, -1<<53, api.Match{Name: "rule", Value: "for"}, api.Match{Name: "alertname", Value: "", Not: true}), `labels{rule="for",alertname!=""} <= -9007199254740.992`},
		{asks(longest, api.NotEqual, 12345, api.Match{Name: longest, Value: longest}), longest + `{` + longest + `="` + longest + `"} != 12.345`},
	}
	// noQuestions are wrong in a name, a value, by their matches, the op or the number.
	noQuestions = []api.Expr{
		{}, asks("", api.More, 0), asks("1", api.More, 0), asks(longer, api.More, 0), asks("up", 0, 0), asks("up", -1, 0), asks("up", 7, 0), asks("up", api.More, 1<<53+1), asks("up", api.More, -1<<53-1), asks("up", api.More, math.MinInt),
		asks("up", api.More, 0, api.Match{}), asks("up", api.More, 0, api.Match{Name: "a", Value: longer}), asks("up", api.More, 0, slices.Repeat([]api.Match{{Name: "a"}}, 9)...),
	}
	// durations have their texts; that of 0 is not printed.
	durations = map[int]string{
		0: "0s", 1: "1ms", 999: "999ms", 1000: "1s", 60000: "1m", 300000: "5m", 3600000: "1h", 5400000: "1h30m", 86400000: "1d", 90061001: "1d1h1m1s1ms",
		1<<53 - 1: "104249991d8h59m991ms", 1 << 53: "104249991d8h59m992ms",
	}
	noDurations = []int{-1, -2, -1000, -1 << 53, 1<<53 + 1, 1<<53 + 2, 1 << 54, math.MinInt, math.MinInt + 1, math.MaxInt, math.MaxInt - 1}
	// labelings are labels, and their texts.
	labelings = []struct {
		l       []api.Pair
		printed string
	}{
		{nil, ``},
		{[]api.Pair{}, ``},
		{pairs("a", ""), `{a=""}`},
		{pairs("a", "1", "b", "2"), `{a="1",b="2"}`},
		{pairs("B", "2", "_", "3", "a", "1", "aa", "0"), `{B="2",_="3",a="1",aa="0"}`},
		{pairs("a", `"`, "b", `\`, "c", "\n", "d", ""), `{a="\"",b="\\",c="\n",d=""}`},
		{pairs("a", `\n"`+"\r\t\n\x00\xff;"), `{a="\\n\"` + "\r\t" + `\n` + "\x00\xff" + `;"}`},
		{pairs("for", "5m", "keep", "=", "labels", "{", "rule", "}"), `{for="5m",keep="=",labels="{",rule="}"}`},
		{pairs("Alertname", "", "__name", "", "__name___", "", "alertnam", "", "alertnames", "", "alertstat", "", "alertstate_", ""), `{Alertname="",__name="",__name___="",alertnam="",alertnames="",alertstat="",alertstate_=""}`},
		{pairs(longest, longest), `{` + longest + `="` + longest + `"}`},
		{sixteen("v"), `{a="v",b="v",c="v",d="v",e="v",f="v",g="v",h="v",i="v",j="v",k="v",l="v",m="v",n="v",o="v",p="v"}`},
	}
	// noLabelings are out of order, have a name twice, too much, no name, or a reserved one.
	noLabelings = [][]api.Pair{
		pairs("b", "", "a", ""), pairs("a", "", "c", "", "b", ""), pairs("a", "", "B", ""), pairs("a", "", "a", ""), pairs("a", "1", "a", "2"), pairs("a", "", "b", "", "b", ""),
		pairs("a", longer), pairs("a", "", "b", longer), pairs("a", strings.Repeat("x", 1<<12)), append(sixteen(""), pairs("q", "")...), slices.Repeat(pairs("a", ""), 1<<12),
		pairs("", ""), pairs("1", ""), pairs("a", "", "b c", ""), pairs(longer, ""), pairs("é", ""),
		pairs("__name__", ""), pairs("alertname", "x"), pairs("alertstate", ""), pairs("__name__", "up", "a", "1", "b", "2"), pairs("a", "1", "alertname", "2", "b", "3"), pairs("a", "1", "alertstate", "2", "b", "3"), pairs("A", "1", "__name__", "2", "b", "3"),
		pairs("A", "1", "__name__", "2"), pairs("a", "1", "alertname", "2"), pairs("a", "1", "alertstate", "2"), pairs("__name__", "", "alertname", "", "alertstate", ""), append(sixteen("")[:15], pairs("zz", "", "alertname", "")...),
	}
)

// sixteen are labels of one value.
func sixteen(value string) []api.Pair {
	var l []api.Pair
	for c := 'a'; c < 'q'; c++ {
		l = append(l, api.Pair{Name: string(c), Value: value})
	}
	return l
}

// manyRules are sane, and have their texts.
func manyRules() map[string]api.Rule {
	list := map[string]api.Rule{}
	add := func(name string, question int, wait, keep int, labeling int) {
		q, l := questions[question%len(questions)], labelings[labeling%len(labelings)]
		s := "rule " + name + ": " + q.printed
		if wait > 0 {
			s += " for " + durations[wait]
		}
		if keep > 0 {
			s += " keep " + durations[keep]
		}
		if len(l.l) > 0 {
			s += " labels " + l.printed
		}
		list[s+";"] = api.Rule{Name: name, E: q.x, For: wait, Keep: keep, Labels: l.l}
	}
	for n, name := range names {
		for k := range labelings {
			add(name, n+k, 0, 0, k)
		}
	}
	for q := range questions {
		for k := range labelings {
			add("Down", q, 0, 60000, k)
		}
	}
	for wait := range durations {
		for keep := range durations {
			for k := range labelings {
				add("Down", 0, wait, keep, k)
			}
		}
	}
	return list
}

// P10.1

func TestReserved(t *testing.T) {
	for _, s := range reserved {
		expectReserved(t, s, true)
		for _, other := range []string{s[1:], s[:len(s)-1], s + "_", s + "s", s + "1", "_" + s, "a" + s, s + s, " " + s, s + " ", s + "\x00", s + "\n", strings.ToUpper(s), strings.ToUpper(s[:1]) + s[1:], strings.Replace(s, "a", "A", 1), s[:len(s)-1] + strings.ToUpper(s[len(s)-1:])} {
			expectReserved(t, other, slices.Contains(reserved, other))
		}
		for size := range s {
			expectReserved(t, s[:size], false)
			expectReserved(t, s[size:], size == 0)
		}
	}
	for _, s := range []string{"", "Alertname", "ALERTSTATE", "__NAME__", "__name_", "_name__", "name", "alert", "state", "alertnames", "alert_name", "a", "rule", "for", "keep", "labels", "é", longest, longer} {
		expectReserved(t, s, false)
	}
}

func TestSane(t *testing.T) {
	for _, r := range manyRules() {
		expectSane(t, r, true)
	}
}

func TestSaneOfNoName(t *testing.T) {
	for _, r := range manyRules() {
		for _, name := range noNames {
			r.Name = name
			expectInsane(t, r)
		}
	}
	expectInsane(t, api.Rule{})
}

func TestSaneOfNoQuestion(t *testing.T) {
	for _, r := range manyRules() {
		for _, x := range noQuestions {
			r.E = x
			expectInsane(t, r)
		}
	}
}

func TestSaneOfDurations(t *testing.T) {
	some := []int{-1, 0, 1, 1000, 1<<53 - 1, 1 << 53, 1<<53 + 1}
	for _, d := range slices.Concat(some, slices.Sorted(maps.Keys(durations)), noDurations) {
		for _, other := range some {
			ok := 0 <= d && d <= 1<<53 && 0 <= other && other <= 1<<53
			expectSane(t, api.Rule{Name: "A", E: down, For: d, Keep: other}, ok)
			expectSane(t, api.Rule{Name: "A", E: down, For: other, Keep: d, Labels: sixteen("")}, ok)
		}
	}
}

func TestSaneOfNoLabels(t *testing.T) {
	for _, r := range manyRules() {
		for _, l := range noLabelings {
			r.Labels = l
			expectInsane(t, r)
		}
	}
}

// TestSaneOfReserved: of each of the names, wherever it stands in labels, and of no other.
func TestSaneOfReserved(t *testing.T) {
	for _, s := range reserved {
		for _, others := range [][]api.Pair{nil, pairs("a", "1"), pairs("A", "1", "b", "2"), pairs("A", "1", "B", "2"), pairs("x", "1", "y", "2"), sixteen("")[:15]} {
			l, e := label.Make(append(slices.Clone(others), api.Pair{Name: s}))
			if e != api.OK {
				t.Fatal(others, e)
			}
			expectInsane(t, api.Rule{Name: "A", E: down, Labels: l})
			l[slices.IndexFunc(l, func(p api.Pair) bool { return p.Name == s })].Name += "_"
			expectSane(t, api.Rule{Name: "A", E: down, Labels: l}, true)
		}
	}
	expectSane(t, api.Rule{Name: "alertname", E: asks("alertstate", api.More, 0, api.Match{Name: "__name__"}), Labels: pairs("a", "alertname")}, true)
}

// P10.2

func TestPrint(t *testing.T) {
	for want, r := range manyRules() {
		expectPrint(t, r, want)
	}
}

// TestPrintOptional: with and without each of what may be left out.
func TestPrintOptional(t *testing.T) {
	for k, want := range []string{
		`rule Down: up == 0;`, `rule Down: up == 0 for 5m;`, `rule Down: up == 0 keep 1h30m;`, `rule Down: up == 0 for 5m keep 1h30m;`,
		`rule Down: up == 0 labels {a="1",b="\"\\\n"};`, `rule Down: up == 0 for 5m labels {a="1",b="\"\\\n"};`, `rule Down: up == 0 keep 1h30m labels {a="1",b="\"\\\n"};`, `rule Down: up == 0 for 5m keep 1h30m labels {a="1",b="\"\\\n"};`,
	} {
		r := api.Rule{Name: "Down", E: down}
		if k&1 > 0 {
			r.For = 300000
		}
		if k&2 > 0 {
			r.Keep = 5400000
		}
		if k&4 > 0 {
			r.Labels = pairs("a", "1", "b", "\"\\\n")
		} else {
			expectPrint(t, r, want)
			r.Labels = []api.Pair{}
		}
		expectPrint(t, r, want)
	}
}

// P10.3

func TestExample(t *testing.T) {
	r := api.Rule{Name: "Down", E: down, For: 300000}
	expectText(t, "rule Down: up == 0 for 5m;", r, 9)
	expectPrint(t, r, "rule Down: up == 0 for 5m;")
}

func TestParse(t *testing.T) {
	for s, want := range map[string]api.Rule{
		`rule A: up > 1;`:                  {Name: "A", E: asks("up", api.More, 1000)},
		`rule A:up>1;`:                     {Name: "A", E: asks("up", api.More, 1000)},
		"#x\nrule\tA\r:\nup # ;\n>\n1\n;#": {Name: "A", E: asks("up", api.More, 1000)},
		`rule A: ((up{a="1"} <= -0.5));`:   {Name: "A", E: asks("up", api.LessSame, -500, api.Match{Name: "a", Value: "1"})},
		`rule A: ` + strings.Repeat("(", 32) + `up == 0` + strings.Repeat(")", 32) + ` for 5m;`: {Name: "A", E: down, For: 300000},
		`rule A: up == 0 for 5m;`:                                      {Name: "A", E: down, For: 300000},
		`rule A: (up == 0) for 300s;`:                                  {Name: "A", E: down, For: 300000},
		`rule A: up == 0 for 0s;`:                                      {Name: "A", E: down},
		`rule A: up == 0 keep 0ms;`:                                    {Name: "A", E: down},
		`rule A: up == 0 for 0d0s keep 0h labels {};`:                  {Name: "A", E: down},
		`rule A: up == 0 for 007m0s keep 90m;`:                         {Name: "A", E: down, For: 420000, Keep: 5400000},
		`rule A: up == 0 keep 1ms;`:                                    {Name: "A", E: down, Keep: 1},
		`rule A: up == 0 for 104249991d8h59m992ms;`:                    {Name: "A", E: down, For: 1 << 53},
		`rule A: up == 0 keep 9007199254740992ms;`:                     {Name: "A", E: down, Keep: 1 << 53},
		`rule A: up == 0 labels {};`:                                   {Name: "A", E: down},
		`rule A: up == 0 labels{a="1"};`:                               {Name: "A", E: down, Labels: pairs("a", "1")},
		`rule A: up == 0 labels {b="2",a="1"};`:                        {Name: "A", E: down, Labels: pairs("a", "1", "b", "2")},
		`rule A: up == 0 labels {c="",b="",B="",a="",_="",aa=""};`:     {Name: "A", E: down, Labels: pairs("B", "", "_", "", "a", "", "aa", "", "b", "", "c", "")},
		`rule A: up == 0 labels {a="\"\\\n",b="};"};`:                  {Name: "A", E: down, Labels: pairs("a", "\"\\\n", "b", "};")},
		`rule A: up == 0 for 1s keep 2s labels {a="1"};`:               {Name: "A", E: down, For: 1000, Keep: 2000, Labels: pairs("a", "1")},
		`rule rule: rule > 1 for 1s keep 1s labels {rule="rule"};`:     {Name: "rule", E: asks("rule", api.More, 1000), For: 1000, Keep: 1000, Labels: pairs("rule", "rule")},
		`rule for: for > 1 for 1s;`:                                    {Name: "for", E: asks("for", api.More, 1000), For: 1000},
		`rule for: for > 1;`:                                           {Name: "for", E: asks("for", api.More, 1000)},
		`rule keep: keep > 1 keep 1s;`:                                 {Name: "keep", E: asks("keep", api.More, 1000), Keep: 1000},
		`rule keep: keep{for="1"} > 1;`:                                {Name: "keep", E: asks("keep", api.More, 1000, api.Match{Name: "for", Value: "1"})},
		`rule labels: labels > 1 labels {labels="",keep="",for=""};`:   {Name: "labels", E: asks("labels", api.More, 1000), Labels: pairs("for", "", "keep", "", "labels", "")},
		`rule labels: labels{} > 1;`:                                   {Name: "labels", E: asks("labels", api.More, 1000)},
		`rule alertname: alertstate{__name__=""} > 1;`:                 {Name: "alertname", E: asks("alertstate", api.More, 1000, api.Match{Name: "__name__"})},
		`rule ` + longest + `: up == 0 labels {` + longest + `="x"};`:  {Name: longest, E: down, Labels: pairs(longest, "x")},
		`rule A: up == 0 labels {a="` + longest + `",b="__name__"};`:   {Name: "A", E: down, Labels: pairs("a", longest, "b", "__name__")},
		`rule A: up == 0 labels {Alertname="",alertnam="",__name=""};`: {Name: "A", E: down, Labels: pairs("Alertname", "", "__name", "", "alertnam", "")},
	} {
		size := len(tokens(t, s))
		expectText(t, s, want, size)
		expectText(t, s+s, want, size)
		expectText(t, s+" labels {} ;", want, size)
	}
}

// TestParsePlaces: at an i that is none, and at each i of some tokens, with others ahead and behind.
func TestParsePlaces(t *testing.T) {
	few := tokens(t, "rule A: up == 0;")
	for _, l := range [][]api.Token{nil, {}, {word("a")}, {word("rule")}, few[1:4], few} {
		for _, i := range []int{-1, -2, -33, -len(l) - 1, math.MinInt, math.MinInt + 1, math.MinInt32} {
			expectError(t, l, i, 0, api.ErrShort)
		}
		for _, i := range []int{len(l), len(l) + 1, len(l) + 2, len(l) + 33, math.MaxInt, math.MaxInt - 1, math.MaxInt32, 1 << 32} {
			expectError(t, l, i, len(l), api.ErrShort)
		}
	}
	l := tokens(t, `x rule A: up == 0; rule B: (down{a="1"} > 2) for 5m keep 1s labels {b="2",a="1"}; }`)
	one := api.Rule{Name: "A", E: down}
	two := api.Rule{Name: "B", E: asks("down", api.More, 2000, api.Match{Name: "a", Value: "1"}), For: 300000, Keep: 1000, Labels: pairs("a", "1", "b", "2")}
	for i := range l {
		switch i {
		case 1:
			expectParse(t, l, i, one, 8, api.OK)
		case 8:
			expectParse(t, l, i, two, len(l)-1, api.OK)
		default:
			expectError(t, l, i, i, api.ErrForm)
		}
	}
}

// TestParseOptional: whatever is left out, and in whatever order the rest stands, also twice; what may not stand there is told.
func TestParseOptional(t *testing.T) {
	texts := []string{`for 5m`, `keep 1h30m`, `labels {b="2",a="1"}`}
	lists := [][]int{nil}
	for from := 0; len(lists[from]) < 4; from++ {
		for k := range texts {
			lists = append(lists, append(slices.Clone(lists[from]), k))
		}
	}
	for _, list := range lists {
		want := api.Rule{Name: "Down", E: down}
		s, wrong := "rule Down: up == 0", -1
		for n, k := range list {
			if n > 0 && k <= list[n-1] && wrong < 0 {
				wrong = len(tokens(t, s))
			}
			s += " " + texts[k]
			switch k {
			case 0:
				want.For = 300000
			case 1:
				want.Keep = 5400000
			case 2:
				want.Labels = pairs("a", "1", "b", "2")
			}
		}
		l := tokens(t, s+"; x")
		if wrong < 0 {
			expectParse(t, l, 0, want, len(l)-1, api.OK)
			continue
		}
		expectError(t, l, 0, wrong, api.ErrForm)
		expectError(t, l[:wrong+1], 0, wrong, api.ErrForm)
		expectError(t, l[:wrong], 0, wrong, api.ErrShort)
	}
}

// TestParseNames: behind the word rule a Word is wanted that is a name.
func TestParseNames(t *testing.T) {
	behind := tokens(t, ": up == 0;")
	for _, name := range names {
		expectParse(t, slices.Concat([]api.Token{word("rule"), word(name)}, behind), 0, api.Rule{Name: name, E: down}, 7, api.OK)
	}
	for _, name := range noNames {
		expectError(t, slices.Concat([]api.Token{word("rule"), word(name)}, behind), 0, 1, api.ErrName)
		expectError(t, []api.Token{word("rule"), word(name)}, 0, 1, api.ErrName)
		expectError(t, []api.Token{word("rule"), word(name), text("")}, 0, 1, api.ErrName)
	}
	for _, x := range manyTokens() {
		if x.K != api.Word {
			expectError(t, slices.Concat([]api.Token{word("rule"), x}, behind), 0, 1, api.ErrForm)
			expectError(t, []api.Token{word("rule"), x}, 0, 1, api.ErrForm)
		}
		if x != word("rule") {
			expectError(t, slices.Concat([]api.Token{x, word("A")}, behind), 0, 0, api.ErrForm)
			expectError(t, []api.Token{x}, 0, 0, api.ErrForm)
		}
		if x != sign(":") {
			expectError(t, slices.Concat([]api.Token{word("rule"), word("A"), x}, behind), 0, 2, api.ErrForm)
			expectError(t, []api.Token{word("rule"), word("A"), x}, 0, 2, api.ErrForm)
		}
	}
	expectError(t, tokens(t, "rule A up == 0;"), 0, 2, api.ErrForm)
	expectError(t, tokens(t, "rule : up == 0;"), 0, 1, api.ErrForm)
	expectError(t, tokens(t, "A: up == 0;"), 0, 0, api.ErrForm)
}

// TestParseQuestions: what is wrong with what is asked is told at its place, with its own error.
func TestParseQuestions(t *testing.T) {
	for _, x := range []struct {
		s  string
		at int
		e  api.Errno
	}{
		{``, 0, api.ErrShort}, {`(`, 1, api.ErrShort}, {`up`, 1, api.ErrShort}, {`up{`, 2, api.ErrShort}, {`up{a="1"`, 5, api.ErrShort}, {`up >`, 2, api.ErrShort}, {`(up > 1`, 4, api.ErrShort}, {strings.Repeat("(", 32), 32, api.ErrShort},
		{`;`, 0, api.ErrForm}, {`1;`, 0, api.ErrForm}, {`: up > 1;`, 0, api.ErrForm}, {`"up" > 1;`, 0, api.ErrForm}, {`up;`, 1, api.ErrForm}, {`up = 1;`, 1, api.ErrForm}, {`up for 5m;`, 1, api.ErrForm}, {`up{,} > 1;`, 2, api.ErrForm}, {`up > ;`, 2, api.ErrForm}, {`up > 1s;`, 2, api.ErrForm}, {`up > x;`, 2, api.ErrForm}, {`(up > 1;`, 4, api.ErrForm}, {`(up > 1 for 5m);`, 4, api.ErrForm}, {`up > 1);`, 3, api.ErrForm}, {`up > 1 2;`, 3, api.ErrForm},
		{longer + ` > 1;`, 0, api.ErrName}, {`((` + longer, 2, api.ErrName}, {`up{` + longer + `=""} > 1;`, 2, api.ErrName},
		{`up{a="` + longer + `"} > 1;`, 4, api.ErrLarge}, {`up{` + strings.Repeat(`a="1",`, 8) + `a="1"} > 1;`, 36, api.ErrLarge},
		{`up > 9007199254740.993;`, 2, api.ErrRange}, {`up > -9007199254741 for`, 2, api.ErrRange},
		{strings.Repeat("(", 33), 32, api.ErrDeep}, {strings.Repeat("(", 33) + `up > 1` + strings.Repeat(")", 33) + `;`, 32, api.ErrDeep},
	} {
		expectError(t, tokens(t, "rule A: "+x.s), 0, 3+x.at, x.e)
		expectError(t, tokens(t, "x; rule A: "+x.s), 2, 5+x.at, x.e)
		if x.e != api.ErrShort {
			expectError(t, tokens(t, "rule A: "+x.s+" for x labels {,};"), 0, 3+x.at, x.e)
		}
	}
}

// TestParseDurations: behind for and keep a Number is wanted, which dur.Parse takes.
func TestParseDurations(t *testing.T) {
	for _, ahead := range []string{"for", "keep", "for 1s keep"} {
		front := tokens(t, "rule A: up == 0 "+ahead)
		behinds := [][]api.Token{nil, {sign(";")}, {sign(";"), text("")}, {word("labels"), sign("{"), sign("}"), sign(";")}, {text("")}}
		expectError(t, front, 0, len(front), api.ErrShort)
		for _, x := range manyTokens() {
			if x.K == api.Number {
				continue
			}
			for _, behind := range behinds {
				expectError(t, slices.Concat(front, []api.Token{x}, behind), 0, len(front), api.ErrForm)
			}
		}
		for d, s := range durations {
			want := api.Rule{Name: "A", E: down}
			switch ahead {
			case "for":
				want.For = d
			case "keep":
				want.Keep = d
			default:
				want.For, want.Keep = 1000, d
			}
			expectParse(t, slices.Concat(front, []api.Token{number(s), sign(";"), sign(";")}), 0, want, len(front)+2, api.OK)
			expectParse(t, slices.Concat(front, []api.Token{number("0" + s)}, tokens(t, "labels {};")), 0, want, len(front)+5, api.OK)
		}
		for e, list := range map[api.Errno][]string{
			api.ErrForm:  {"", "5", "0", "-1s", "-0s", "1x", "1S", "s", "ms", "1s1s", "1s1m", "1ms1s", "1m 1s", " 1s", "1s ", "1.5s", "1s.", "1e3s", "1sm", "1d1", "5m\x00", "é", "9007199254740993", "99999999999999999999x", "for", ";"},
			api.ErrRange: {"9007199254740993ms", "104249991d8h59m993ms", "104249992d", "9007199254741s", "18446744073709551616ms", "18446744073709551617d", strings.Repeat("9", 1000) + "s", "1d" + strings.Repeat("9", 100) + "ms"},
		} {
			for _, s := range list {
				for _, behind := range behinds {
					expectError(t, slices.Concat(front, []api.Token{number(s)}, behind), 0, len(front), e)
				}
			}
		}
	}
	expectError(t, tokens(t, "rule A: up == 0 for 9007199254741s keep 5;"), 0, 7, api.ErrRange)
	expectError(t, tokens(t, "rule A: up == 0 for 5 keep 9007199254741s;"), 0, 7, api.ErrForm)
	expectError(t, tokens(t, "rule A: up == 0 for 5m keep 9007199254741s labels {a=1};"), 0, 9, api.ErrRange)
	expectError(t, tokens(t, "rule A: up == 0 for 5m 5m;"), 0, 8, api.ErrForm)
	expectError(t, tokens(t, "rule A: up == 0 5m;"), 0, 6, api.ErrForm)
	expectError(t, tokens(t, "rule A: up == 0 for;"), 0, 7, api.ErrForm)
	expectError(t, tokens(t, "rule A: up == 0 for keep 5m;"), 0, 7, api.ErrForm)
}

// TestParseLabelForm: between the signs { and } stand pairs with a "," between.
func TestParseLabelForm(t *testing.T) {
	for _, front := range []string{"rule A: up == 0", "rule A: up == 0 for 5m", "rule A: (up == 0) for 5m keep 1s"} {
		size := len(tokens(t, front))
		for _, x := range []struct {
			s  string
			at int
			e  api.Errno
		}{
			{`labels`, 1, api.ErrShort}, {`labels {`, 2, api.ErrShort}, {`labels {a`, 3, api.ErrShort}, {`labels {a=`, 4, api.ErrShort}, {`labels {a="1"`, 5, api.ErrShort}, {`labels {a="1",`, 6, api.ErrShort}, {`labels {a="1",a="1"`, 9, api.ErrShort}, {`labels {alertname="` + longer + `"`, 5, api.ErrShort}, {`labels {}`, 3, api.ErrShort}, {`labels {a="1"}`, 6, api.ErrShort},
			{`labels;`, 1, api.ErrForm}, {`labels a="1";`, 1, api.ErrForm}, {`labels (a="1");`, 1, api.ErrForm}, {`labels };`, 1, api.ErrForm}, {`labels {{}};`, 2, api.ErrForm},
			{`labels {,};`, 2, api.ErrForm}, {`labels {,a="1"};`, 2, api.ErrForm}, {`labels {a="1",};`, 6, api.ErrForm}, {`labels {a="1",,b="2"};`, 6, api.ErrForm}, {`labels {a="1" b="2"};`, 5, api.ErrForm}, {`labels {a="1";b="2"};`, 5, api.ErrForm}, {`labels {a="1",b="2" c="3"};`, 9, api.ErrForm}, {`labels {a="1",b="2",};`, 10, api.ErrForm},
			{`labels {"a"="1"};`, 2, api.ErrForm}, {`labels {1="1"};`, 2, api.ErrForm}, {`labels {="1"};`, 2, api.ErrForm}, {`labels {a};`, 3, api.ErrForm}, {`labels {a "1"};`, 3, api.ErrForm}, {`labels {a:"1"};`, 3, api.ErrForm}, {`labels {a!="1"};`, 3, api.ErrForm}, {`labels {a=="1"};`, 3, api.ErrForm}, {`labels {a= ="1"};`, 4, api.ErrForm}, {`labels {a=1};`, 4, api.ErrForm}, {`labels {a=b};`, 4, api.ErrForm}, {`labels {a=};`, 4, api.ErrForm}, {`labels {a="1",b};`, 7, api.ErrForm},
			{`labels {a="1");`, 5, api.ErrForm}, {`labels {a="1";`, 5, api.ErrForm}, {`labels {a="1"}};`, 6, api.ErrForm}, {`labels {},;`, 3, api.ErrForm}, {`labels {} {};`, 3, api.ErrForm}, {`labels {} for 5m;`, 3, api.ErrForm}, {`labels {a="1"} labels {b="2"};`, 6, api.ErrForm},
			// what is wrong with labels is told at the }, behind all that is of another form ahead of it
			{`labels {a="1",a="2",};`, 10, api.ErrForm}, {`labels {` + longer + `=1};`, 4, api.ErrForm}, {`labels {alertname="` + longer + `" b};`, 5, api.ErrForm}, {`labels {` + strings.Repeat(`a="1",`, 20) + `};`, 82, api.ErrForm},
		} {
			expectError(t, tokens(t, front+" "+x.s), 0, size+x.at, x.e)
			expectError(t, slices.Concat([]api.Token{{}, word("rule")}, tokens(t, front+" "+x.s)), 2, 2+size+x.at, x.e)
		}
		expectParse(t, tokens(t, front+" labels {};"), 0, parsed(t, front+";"), size+4, api.OK)
	}
}

// TestParseLabels: what is wrong with labels is told at the }, be the rule whole or not, and the first of what label.Make tells ahead of a reserved name.
func TestParseLabels(t *testing.T) {
	for _, x := range []struct {
		l []api.Pair
		e api.Errno
	}{
		{nil, api.OK}, {pairs("a", "1"), api.OK}, {pairs("b", "2", "a", "1"), api.OK}, {pairs("c", "", "a", longest, "b", "\x00\xff"), api.OK}, {sixteen(longest), api.OK}, {pairs(longest, longest), api.OK}, {pairs("alertnames", "", "alertnam", "", "Alertstate", ""), api.OK},
		{append(sixteen(""), pairs("q", "")...), api.ErrLarge}, {slices.Concat(sixteen(""), pairs("q", "", "r", "")), api.ErrLarge}, {slices.Repeat(sixteen(""), 100), api.ErrLarge}, {pairs("a", longer), api.ErrLarge}, {pairs("a", "", "b", longer, "c", ""), api.ErrLarge}, {pairs("a", "", "b", strings.Repeat("x", 1<<12)), api.ErrLarge},
		{pairs(longer, ""), api.ErrName}, {pairs("", ""), api.ErrName}, {pairs("1", ""), api.ErrName}, {pairs("a", "", "b-c", ""), api.ErrName}, {pairs("a", "", "é", "", "b", ""), api.ErrName},
		{pairs("a", "1", "a", "1"), api.ErrTwice}, {pairs("a", "1", "b", "2", "a", "3"), api.ErrTwice}, {append(sixteen("")[:15], pairs("a", "")...), api.ErrTwice},
		{pairs("__name__", ""), api.ErrName}, {pairs("alertname", "1"), api.ErrName}, {pairs("alertstate", ""), api.ErrName}, {pairs("alertname", "", "a", "", "b", ""), api.ErrName}, {pairs("a", "", "__name__", "", "b", ""), api.ErrName}, {pairs("b", "", "a", "", "alertstate", ""), api.ErrName}, {append(sixteen("")[:15], pairs("alertname", "")...), api.ErrName},
		// of two things that are wrong
		{append(sixteen(""), pairs("1", "")...), api.ErrLarge}, {append(sixteen(""), pairs("a", "")...), api.ErrLarge}, {append(sixteen(""), pairs("alertname", "")...), api.ErrLarge}, {append(sixteen(""), pairs("q", longer)...), api.ErrLarge},
		{pairs("1", "", "a", longer), api.ErrLarge}, {pairs("a", "", "a", longer), api.ErrLarge}, {pairs("alertname", longer), api.ErrLarge}, {pairs("alertname", "", "a", longer), api.ErrLarge},
		{pairs("a", "", "a", "", "1", ""), api.ErrName}, {pairs(longer, "", longer, ""), api.ErrName}, {pairs("alertname", "", "1", ""), api.ErrName},
		{pairs("a", "", "alertname", "", "a", ""), api.ErrTwice}, {pairs("alertstate", "1", "alertstate", "2"), api.ErrTwice}, {pairs("__name__", "", "a", "", "__name__", ""), api.ErrTwice},
	} {
		for _, front := range []string{"rule A: up == 0", "rule A: up == 0 for 5m keep 1s"} {
			l := slices.Concat(tokens(t, front+" labels"), labelTokens(x.l))
			if x.e != api.OK {
				for _, behind := range [][]api.Token{nil, {sign(";")}, {sign("}"), text("")}, {word("for"), number("5")}} {
					expectError(t, append(slices.Clone(l), behind...), 0, len(l)-1, x.e)
				}
				expectError(t, l[:len(l)-1], 0, len(l)-1, api.ErrShort)
				expectError(t, append(l[:len(l)-1:len(l)-1], sign(";")), 0, len(l)-1, api.ErrForm)
				continue
			}
			want := parsed(t, front+";")
			want.Labels = slices.SortedFunc(slices.Values(x.l), func(a, b api.Pair) int { return strings.Compare(a.Name, b.Name) })
			expectParse(t, append(slices.Clone(l), sign(";")), 0, want, len(l)+1, api.OK)
			expectError(t, l, 0, len(l), api.ErrShort)
		}
	}
}

// TestParseEnds: behind each token of a rule, but the last one, more is wanted.
func TestParseEnds(t *testing.T) {
	for s, want := range manyRules() {
		l := tokens(t, s)
		expectParse(t, l, 0, want, len(l), api.OK)
		for size := range len(l) {
			expectError(t, l[:size], 0, size, api.ErrShort)
			expectError(t, slices.Concat([]api.Token{sign(";")}, l[:size]), 1, size+1, api.ErrShort)
		}
	}
}

const whole = `rule Down: (up{a="1",b!="2"} <= -1.5) for 5m keep 1h30m labels {y="2",x="1"};`

// TestParseOtherTokens: a token's kind and its text count.
func TestParseOtherTokens(t *testing.T) {
	l := tokens(t, whole)
	for i := range l {
		for _, k := range []int{0, -1, 1, 2, 3, 4, 5, 8, 256 + 1, 256 + 2, 256 + 3, 256 + 4, 1<<32 + 1, 1<<32 + 4, math.MinInt, math.MaxInt} {
			if k == l[i].K {
				continue
			}
			changed := slices.Clone(l)
			changed[i].K = k
			e := api.ErrForm
			if k == api.Word && i == 3 {
				e = api.ErrName // a sign ( as a word is what a question would begin with
			}
			expectError(t, changed, 0, i, e)
			expectError(t, changed[:i+1], 0, i, e)
		}
		for _, x := range manyTokens() {
			changed := slices.Clone(l)
			changed[i].S = x.S
			expectAsModel(t, changed, 0)
			changed[i] = x
			expectAsModel(t, changed, 0)
			expectAsModel(t, changed[:i+1], 0)
			expectAsModel(t, slices.Insert(slices.Clone(l), i, x), 0)
		}
		expectAsModel(t, slices.Delete(slices.Clone(l), i, i+1), 0)
	}
	// those whose text is wanted so and not otherwise
	for i, others := range map[int][]string{
		0: {"Rule", "RULE", "rul", "rules", "ule", "", "rule ", " rule", "group", "for", "ru1e", "rule\x00"}, 2: {"::", ";", ",", "=", "", ": ", "{"},
		17: {"For", "FOR", "fo", "fork", "or", "", "for ", "rule"}, 19: {"Keep", "kee", "keeps", "", "for", "rule"}, 21: {"Labels", "label", "labelss", "", "for", "keep", "rule"},
		22: {"(", "}", "{{", "", "["}, 24: {"!=", "==", ":", "", ">="}, 26: {";", "{", ":", "", ",,"}, 28: {"!=", "==", ":", ""}, 30: {")", "{", ";", "", "}}"}, 31: {":", ",", "}", "", ";;"},
	} {
		for _, s := range others {
			changed := slices.Clone(l)
			changed[i].S = s
			expectError(t, changed, 0, i, api.ErrForm)
			expectError(t, changed[:i+1], 0, i, api.ErrForm)
		}
	}
}

// TestParseAt: the places of tokens in their text do not matter.
func TestParseAt(t *testing.T) {
	l := tokens(t, whole)
	want := parsed(t, whole)
	for _, at := range []int{0, 7, -1, math.MinInt, math.MaxInt} {
		placed := slices.Clone(l)
		for i := range placed {
			placed[i].At = at * (i + 1)
		}
		expectParse(t, placed, 0, want, len(l), api.OK)
		expectParse(t, slices.Concat(placed, placed), len(l), want, 2*len(l), api.OK)
		placed[30].S = ";"
		expectError(t, placed, 0, 30, api.ErrForm)
		expectError(t, placed[:30], 0, 30, api.ErrShort)
		expectError(t, placed, 1, 1, api.ErrForm)
	}
}

// TestParseBehind: whatever stands behind a rule does not matter, nor does what stands ahead.
func TestParseBehind(t *testing.T) {
	for _, s := range []string{whole, "rule A: up == 0;", "rule A: up == 0 for 5m;", "rule A: up == 0 labels {};"} {
		l, want := tokens(t, s), parsed(t, s)
		for _, x := range manyTokens() {
			expectParse(t, append(slices.Clone(l), x), 0, want, len(l), api.OK)
			expectParse(t, slices.Concat([]api.Token{x, x}, l, []api.Token{x, x}), 2, want, len(l)+2, api.OK)
		}
	}
}

// TestParseAll: every list of up to three of the tokens that stand for all, behind each beginning of a rule, as the model tells.
func TestParseAll(t *testing.T) {
	some := []api.Token{word("a"), word("rule"), word("for"), word("keep"), word("labels"), word("alertname"), word(longer), text("a"), text(longer), number("0"), number("1s"), sign("("), sign(")"), sign("{"), sign("}"), sign(","), sign("="), sign(":"), sign(";"), sign(">"), {K: 0, S: ";"}}
	lists := [][]api.Token{nil}
	for from := 0; len(lists[from]) < 3; from++ {
		for _, x := range some {
			lists = append(lists, append(slices.Clone(lists[from]), x))
		}
	}
	for _, ahead := range []string{"", "rule", "rule A", "rule A:", "rule A: up", "rule A: up >", "rule A: up > 1", "rule A: up > 1 for", "rule A: up > 1 for 5m", "rule A: up > 1 for 5m keep", "rule A: up > 1 keep 5m", "rule A: up > 1 labels", "rule A: up > 1 labels {", `rule A: up > 1 labels {a="1"`, `rule A: up > 1 labels {a="1",`, `rule A: up > 1 labels {}`} {
		l := tokens(t, ahead)
		for _, behind := range lists {
			expectAsModel(t, append(slices.Clone(l), behind...), 0)
		}
	}
	for _, l := range lists {
		for i := -1; i <= len(l)+1; i++ {
			expectAsModel(t, l, i)
		}
	}
}

// TestParseAnyTokens: with tokens left out, laid twice, and others laid between.
func TestParseAnyTokens(t *testing.T) {
	r := rand.New(rand.NewSource(10))
	most := manyTokens()
	for range 30000 {
		l := tokens(t, rule.Print(anyRule(r)))
		for range r.Intn(4) {
			at := r.Intn(len(l))
			switch r.Intn(4) {
			case 0:
				l = slices.Delete(l, at, at+1)
			case 1:
				l = slices.Insert(l, at, l[r.Intn(len(l))])
			case 2:
				l = slices.Insert(l, at, most[r.Intn(len(most))])
			case 3:
				l[at] = most[r.Intn(len(most))]
			}
			l = append(l, most[r.Intn(len(most))])
		}
		expectAsModel(t, l, 0)
		expectAsModel(t, l, r.Intn(len(l)+2)-1)
		expectAsModel(t, slices.Concat([]api.Token{word("rule")}, l), 1)
	}
}

// TestParseManyTokens: that they are many is no matter.
func TestParseManyTokens(t *testing.T) {
	one := tokens(t, whole)
	l, want := slices.Repeat(one, 1<<11), parsed(t, whole)
	for _, i := range []int{0, len(one), len(l) - len(one)} {
		expectParse(t, l, i, want, i+len(one), api.OK)
	}
	front := tokens(t, "rule A: up == 0 labels {")
	some := slices.Repeat(tokens(t, `a="1",`), 1<<14)
	expectError(t, slices.Concat(front, some), 0, len(front)+len(some), api.ErrShort)
	expectError(t, slices.Concat(front, some, tokens(t, `};`)), 0, len(front)+len(some), api.ErrForm)
	expectError(t, slices.Concat(front, some, tokens(t, `a="1"};`)), 0, len(front)+len(some)+3, api.ErrLarge)
	expectError(t, slices.Repeat([]api.Token{word("rule")}, 1<<16), 1<<15, 1<<15+2, api.ErrForm)
}

// P10.4

func TestPrintedIsParsed(t *testing.T) {
	for _, x := range manyRules() {
		expectReadAgain(t, x)
	}
	r := rand.New(rand.NewSource(104))
	for range 3000 {
		expectReadAgain(t, anyRule(r))
	}
}

// TestParsedIsPrintedAlike: however a rule is written, it is printed in one way, which is read as it.
func TestParsedIsPrintedAlike(t *testing.T) {
	for s, want := range map[string]string{
		`rule A:up>1;`: `rule A: up > 1;`, "rule # x\nA : ( ( up{ } >= 1.50 ) )\nfor 90m keep 60000ms labels{ b = \"2\" , a = \"1\" } ;": `rule A: up >= 1.5 for 1h30m keep 1m labels {a="1",b="2"};`,
		`rule A: up > 1 for 0s keep 0d labels {};`: `rule A: up > 1;`, `rule A: up > 1 for 007s;`: `rule A: up > 1 for 7s;`, `rule A: up == -0 keep 24h;`: `rule A: up == 0 keep 1d;`,
		"rule A: up > 1 labels {a=\"\t\\\\n\\n\"};": "rule A: up > 1 labels {a=\"\t\\\\n\\n\"};", `rule for: keep > 1 for 1s labels {rule="",keep=""};`: `rule for: keep > 1 for 1s labels {keep="",rule=""};`,
	} {
		expectPrint(t, parsed(t, s), want)
		expectPrint(t, parsed(t, want), want)
		expectReadAgain(t, parsed(t, s))
	}
}

// TestPrintedApart: no two rules have one text.
func TestPrintedApart(t *testing.T) {
	of := map[string]api.Rule{}
	for _, x := range manyRules() {
		printed := rule.Print(x)
		if other, there := of[printed]; there && !same(x, other) {
			t.Errorf("%s and %s are both printed %q", show(x), show(other), printed)
		}
		of[printed] = x
	}
}

// R1 to R5

// TestNothingIsKept: what is asked between two calls does not matter.
func TestNothingIsKept(t *testing.T) {
	l, want := tokens(t, whole), parsed(t, whole)
	for _, between := range []string{"", "rule A: up == 0;", whole[:40], "rule B: up > 1 for 7s keep 8s labels {z=\"\"};", "rule A: up > 1 for 9s labels {a=\"\",a=\"\"};", "rule A: up > 1 keep 5"} {
		some, _, _ := lex.All(between)
		x, _, _ := rule.Parse(some, 0)
		rule.Print(x)
		rule.Sane(x)
		rule.Reserved("a")
		expectParse(t, l, 0, want, len(l), api.OK)
		expectPrint(t, api.Rule{Name: "A", E: down}, "rule A: up == 0;")
	}
}

// TestAnswersAreApart: what was answered stays as it was, whatever is laid over or behind another answer.
func TestAnswersAreApart(t *testing.T) {
	l, want := tokens(t, whole), parsed(t, whole)
	one, _, _ := rule.Parse(l, 0)
	two, _, _ := rule.Parse(l, 0)
	_ = append(two.Labels, api.Pair{Name: "z"})
	_ = append(two.E.S.M, api.Match{Name: "z"})
	clear(two.Labels)
	clear(two.E.S.M)
	clear(l)
	if !same(one, want) {
		t.Errorf("%s has become %s", show(want), show(one))
	}
}

// P1: no arguments make a call panic, or go on for ever; and all hold against a model.
func FuzzCalls(f *testing.F) {
	f.Add(whole, 0, "up", "job", "a", 2, 2000, 300000, 0)
	f.Add("rule A: up > 1 for 5 keep 1s labels {alertname=\"1\",a=\"\",a=\"\"};", 5, "1", "alertname", "\n", 0, 1<<53, -1, 1<<53+1)
	f.Add("rule for: for > 1; rule keep: (keep > 1) keep 1s labels {};", -1, longest, longer, longer, 7, -1<<53-1, 0, 1<<53)
	f.Fuzz(func(t *testing.T, s string, i int, name, key, value string, op, v, wait, keep int) {
		if len(s) > 1<<10 {
			return
		}
		l, _, _ := lex.All(s)
		expectAsModel(t, l, i)
		for at := range l {
			expectAsModel(t, l, at)
		}
		expectReserved(t, name, slices.Contains(reserved, name))
		expectReserved(t, key, slices.Contains(reserved, key))
		r := api.Rule{Name: name, E: asks(key, op, v), For: wait, Keep: keep, Labels: pairs(key, value)}
		for range 2 {
			if !label.Name(name) || !cond.Sane(r.E) || !dur.Sane(wait) || !dur.Sane(keep) || !label.Sane(r.Labels) || len(r.Labels) > 0 && slices.Contains(reserved, key) {
				expectInsane(t, r)
			} else {
				expectSane(t, r, true)
				expectReadAgain(t, r)
			}
			r.Labels = nil
		}
	})
}

// manyTokens are of all kinds, and of none.
func manyTokens() []api.Token {
	list := []api.Token{{}, {K: 5, S: "a"}, {K: 5, S: ";"}, {K: 5, S: ":"}, {K: -1, S: "rule"}, {K: 0, S: "1s"}, {K: 0, S: "for"}, {K: 0, S: "}"}}
	for _, s := range []string{"", "{", "}", "(", ")", ",", ":", ";", "=", "!=", "==", ">", "<=", "a", "1", "1s", "rule", "for", "keep", "labels", "__name__", "alertname", "alertstate", "Alertname", "Rule", "forx", longest, longer, "é", "-1.5", "9007199254741s", "9007199254740.993"} {
		list = append(list, sign(s), text(s), word(s), number(s))
	}
	return list
}

// octets are such as a value may need care with.
const octets = "\"\\\nn#{};= \x00\xff"

// anyRule is a sane one.
func anyRule(r *rand.Rand) api.Rule {
	x := api.Rule{Name: names[r.Intn(len(names))], E: questions[r.Intn(len(questions))].x}
	for _, d := range []*int{&x.For, &x.Keep} {
		switch r.Intn(4) {
		case 0:
			*d = 1 + r.Intn(1<<53)
		case 1:
			*d = 1000 * r.Intn(100000)
		case 2:
			*d = slices.Sorted(maps.Keys(durations))[r.Intn(len(durations))]
		}
	}
	x.Labels = labelings[r.Intn(len(labelings))].l
	if r.Intn(2) == 0 {
		x.Labels = nil
		for range r.Intn(17) {
			value := make([]byte, r.Intn(65))
			for i := range value {
				value[i] = octets[r.Intn(len(octets))]
			}
			x.Labels, _ = label.With(x.Labels, string("abcdefghijklmnopqrs_"[r.Intn(20)]), string(value))
		}
	}
	return x
}

// tokens are those of a text that lex.All takes.
func tokens(t *testing.T, s string) []api.Token {
	t.Helper()
	l, _, e := lex.All(s)
	if e != api.OK {
		t.Fatalf("%q is no tokens: %v", s, e)
	}
	return l
}

// parsed is the rule that the model reads, to the end of a text.
func parsed(t *testing.T, s string) api.Rule {
	t.Helper()
	l := tokens(t, s)
	x, at, e := modelParse(l, 0)
	if at != len(l) || e != api.OK {
		t.Fatalf("%q is no rule: %d, %v", s, at, e)
	}
	return x
}

// labelTokens are those of pairs from the { on to the }.
func labelTokens(l []api.Pair) []api.Token {
	list := []api.Token{sign("{")}
	for i, p := range l {
		if i > 0 {
			list = append(list, sign(","))
		}
		list = append(list, word(p.Name), sign("="), text(p.Value))
	}
	return append(list, sign("}"))
}

func same(a, b api.Rule) bool {
	return a.Name == b.Name && a.E.S.Name == b.E.S.Name && slices.Equal(a.E.S.M, b.E.S.M) && a.E.Op == b.E.Op && a.E.V == b.E.V && a.For == b.For && a.Keep == b.Keep && slices.Equal(a.Labels, b.Labels)
}

// show has the beginning of a long thing alone.
func show(x any) string { return fmt.Sprintf("%.300s", fmt.Sprintf("%+q", fmt.Sprint(x))) }

func expectReserved(t *testing.T, name string, want bool) {
	t.Helper()
	if got := rule.Reserved(name); got != want {
		t.Errorf("Reserved of %q is %v", name, got)
	}
}

// expectSane asks Sane; what is handed in stays as it is, and so does the room behind it.
func expectSane(t *testing.T, r api.Rule, want bool) {
	t.Helper()
	expectUnchanged(t, r, func(r api.Rule) {
		if got := rule.Sane(r); got != want {
			t.Errorf("Sane of %s is %v", show(r), got)
		}
	})
}

// expectPrint asks Print likewise.
func expectPrint(t *testing.T, r api.Rule, want string) {
	t.Helper()
	expectUnchanged(t, r, func(r api.Rule) {
		if got := rule.Print(r); got != want {
			t.Errorf("Print of %s is %q, not %q", show(r), got, want)
		}
	})
}

// expectInsane: what is not sane has no text.
func expectInsane(t *testing.T, r api.Rule) {
	t.Helper()
	expectSane(t, r, false)
	expectPrint(t, r, "")
}

// expectUnchanged asks of r, and of one with room behind its lists.
func expectUnchanged(t *testing.T, r api.Rule, ask func(api.Rule)) {
	t.Helper()
	ask(r)
	labels := append(slices.Clone(r.Labels), pairs("behind", "room")...)
	matches := append(slices.Clone(r.E.S.M), api.Match{Name: "behind", Value: "room"})
	wasLabels, wasMatches := slices.Clone(labels), slices.Clone(matches)
	r.Labels, r.E.S.M = labels[:len(labels)-1], matches[:len(matches)-1]
	ask(r)
	if !slices.Equal(labels, wasLabels) || !slices.Equal(matches, wasMatches) {
		t.Errorf("%s and %s, handed in, were changed to %s and %s", show(wasLabels), show(wasMatches), show(labels), show(matches))
	}
}

// expectParse asks Parse, of tokens with room behind and without; what is handed in stays as it is.
func expectParse(t *testing.T, l []api.Token, i int, want api.Rule, at int, e api.Errno) {
	t.Helper()
	room := append(slices.Clone(l), sign("}"), sign(";"), sign(";"))
	was := slices.Clone(room)
	for _, x := range [][]api.Token{l, room[:len(l)], room[:len(l):len(l)]} {
		got, gotAt, gotE := rule.Parse(x, i)
		if !same(got, want) || gotAt != at || gotE != e {
			t.Fatalf("Parse of %s at %d is %s, %d, %v, not %s, %d, %v", show(lex.Join(l)), i, show(got), gotAt, gotE, show(want), at, e)
		}
		if e == api.OK && !rule.Sane(got) {
			t.Fatalf("Parse of %s at %d is %s, which is not sane", show(lex.Join(l)), i, show(got))
		}
	}
	if !slices.Equal(room, was) {
		t.Errorf("%s, handed in, was changed to %s", show(was), show(room))
	}
}

// expectError: with an error nothing is told but it and its place.
func expectError(t *testing.T, l []api.Token, i, at int, e api.Errno) {
	t.Helper()
	expectParse(t, l, i, api.Rule{}, at, e)
}

// expectText reads s's tokens from the first one on.
func expectText(t *testing.T, s string, want api.Rule, at int) {
	t.Helper()
	expectParse(t, tokens(t, s), 0, want, at, api.OK)
}

// expectReadAgain: what Print makes of a sane r is read as r, with the place behind it, whatever stands ahead and behind, and printed alike; and without its last token it is too short.
func expectReadAgain(t *testing.T, r api.Rule) {
	t.Helper()
	printed := rule.Print(r)
	l := tokens(t, printed)
	expectParse(t, l, 0, r, len(l), api.OK)
	expectError(t, l[:len(l)-1], 0, len(l)-1, api.ErrShort)
	expectParse(t, tokens(t, "rule { rule A: up > 1;"+printed+" for 5m;}"), 9, r, len(l)+9, api.OK)
	expectParse(t, tokens(t, printed+printed), len(l), r, 2*len(l), api.OK)
	got, _, _ := rule.Parse(l, 0)
	expectPrint(t, got, printed)
}

func expectAsModel(t *testing.T, l []api.Token, i int) {
	t.Helper()
	want, at, e := modelParse(l, i)
	expectParse(t, l, i, want, at, e)
}

// every is the text of a step that takes each text.
const every = "\x00every"

// step is a token that may be read in some state, and the state behind it.
type step struct {
	x  api.Token
	to string
}

// modelSteps are the steps of each state; in the state asked, which is not here, cond.Parse reads.
var modelSteps = map[string][]step{
	"start":   {{word("rule"), "name"}},
	"name":    {{word(every), "colon"}},
	"colon":   {{sign(":"), "asked"}},
	"behind":  {{word("for"), "for"}, {word("keep"), "keep"}, {word("labels"), "labels"}, {sign(";"), "end"}},
	"for":     {{number(every), "waited"}},
	"waited":  {{word("keep"), "keep"}, {word("labels"), "labels"}, {sign(";"), "end"}},
	"keep":    {{number(every), "kept"}},
	"kept":    {{word("labels"), "labels"}, {sign(";"), "end"}},
	"labels":  {{sign("{"), "pairs"}},
	"pairs":   {{sign("}"), "made"}, {word(every), "equal"}},
	"pair":    {{word(every), "equal"}},
	"equal":   {{sign("="), "value"}},
	"value":   {{text(every), "between"}},
	"between": {{sign(","), "pair"}, {sign("}"), "made"}},
	"made":    {{sign(";"), "end"}},
}

// modelParse is Parse from state to state.
func modelParse(l []api.Token, i int) (api.Rule, int, api.Errno) {
	var r api.Rule
	var list []api.Pair
	if i < 0 || i > len(l) {
		return r, min(max(i, 0), len(l)), api.ErrShort
	}
	for state := "start"; state != "end"; {
		var e api.Errno
		if state == "asked" {
			if r.E, i, e = cond.Parse(l, i); e != api.OK {
				return api.Rule{}, i, e
			}
			state = "behind"
			continue
		}
		if i == len(l) {
			return api.Rule{}, i, api.ErrShort
		}
		s := l[i].S
		k := slices.IndexFunc(modelSteps[state], func(x step) bool { return x.x.K == l[i].K && (x.x.S == s || x.x.S == every) })
		if k < 0 {
			return api.Rule{}, i, api.ErrForm
		}
		was := state
		switch state = modelSteps[state][k].to; {
		case was == "name":
			if r.Name = s; !label.Name(s) {
				e = api.ErrName
			}
		case was == "for":
			r.For, e = dur.Parse(s)
		case was == "keep":
			r.Keep, e = dur.Parse(s)
		case state == "equal":
			list = append(list, api.Pair{Name: s})
		case was == "value":
			list[len(list)-1].Value = s
		case state == "made":
			r.Labels, e = label.Make(list)
			if e == api.OK && slices.ContainsFunc(list, func(p api.Pair) bool { return slices.Contains(reserved, p.Name) }) {
				e = api.ErrName
			}
		}
		if e != api.OK {
			return api.Rule{}, i, e
		}
		i++
	}
	return r, i, api.OK
}
