package policy_test

import (
	"math/rand/v2"
	"reflect"
	"regexp"
	"slices"
	"strings"
	"testing"
	"unsafe"

	"portcullis/api"
	"portcullis/lex"
	"portcullis/parse"
	"portcullis/policy"
	"portcullis/tree"
)

func num(n, at int) api.Expr { return api.Expr{Kind: api.EInt, Num: n, At: at} }

func name(s string, at int) api.Expr { return api.Expr{Kind: api.EName, Name: s, At: at} }

func expr(kind int, name string, at int, args ...api.Expr) api.Expr {
	return api.Expr{Kind: kind, Name: name, At: at, Args: args}
}

// equal: the same policy, places too; a nil list and an empty one are the same.
func equal(p, q api.Policy) bool {
	return slices.Equal(p.Levels, q.Levels) && slices.Equal(p.Edges, q.Edges) && slices.Equal(p.Labels, q.Labels) &&
		slices.EqualFunc(p.Hatches, q.Hatches, func(a, b api.Hatch) bool {
			return a.Name == b.Name && a.Level == b.Level && equalExpr(a.Expr, b.Expr)
		})
}

func equalExpr(a, b api.Expr) bool {
	return a.Kind == b.Kind && a.At == b.At && a.Num == b.Num && a.Name == b.Name && slices.EqualFunc(a.Args, b.Args, equalExpr)
}

// bare: a policy without the places in its hatches.
func bare(p api.Policy) api.Policy {
	p.Hatches = slices.Clone(p.Hatches)
	for i := range p.Hatches {
		p.Hatches[i].Expr = bareExpr(p.Hatches[i].Expr)
	}
	return p
}

func bareExpr(e api.Expr) api.Expr {
	e.At, e.Args = 0, slices.Clone(e.Args)
	for i := range e.Args {
		e.Args[i] = bareExpr(e.Args[i])
	}
	return e
}

func parses(t *testing.T, s string, want api.Policy) {
	t.Helper()
	if p, at, e := policy.Parse(s); at != 0 || e != api.OK || !equal(p, want) {
		t.Errorf("%.300q: %.300v %d %d, want %.300v", s, p, at, e, want)
	}
}

// fails: a text's first wrong line, and what is wrong there.
func fails(t *testing.T, s string, line int, want api.Errno) {
	t.Helper()
	if p, at, e := policy.Parse(s); at != line || e != want || !equal(p, api.Policy{}) {
		t.Errorf("%.300q: %.300v %d %d, want %d %d", s, p, at, e, line, want)
	}
}

// shows: a policy's text, of which Parse answers the policy; "no" stands for a policy without one.
func shows(t *testing.T, p api.Policy, want string) {
	t.Helper()
	e := api.OK
	if want == "no" {
		want, e = "", api.ErrLine
	}
	s, got := policy.Show(p)
	if s != want || got != e {
		t.Errorf("%.300v:\n%.300q %d, want\n%.300q %d", p, s, got, want, e)
	}
	if again, at, wrong := policy.Parse(want); e == api.OK && (at != 0 || wrong != api.OK || !equal(bare(again), bare(p))) {
		t.Errorf("%.300q: %.300v %d %d", want, again, at, wrong)
	}
}

func level(s string) api.Policy { return api.Policy{Levels: []string{s}} }

func edge(a, b string) api.Policy { return api.Policy{Edges: [][2]string{{a, b}}} }

func label(kind, name, level string) api.Policy {
	return api.Policy{Labels: []api.Label{{Kind: kind, Name: name, Level: level}}}
}

func hatch(name, level string, e api.Expr) api.Policy {
	return api.Policy{Hatches: []api.Hatch{{Name: name, Level: level, Expr: e}}}
}

const wholeText = "level low\nlevel high\nlevel low\nedge low high\nedge nowhere nowhere\ninput pin high\nsink log low\nlock l low\nchan c high\nvar g low\ninput pin low\nhatch last low ( pin % 10 )\nhatch h none xs [ 1 ] . f\n"

// whole: the policy of wholeText; every list has spare room that holds something.
func whole() api.Policy {
	exprs := func(list ...api.Expr) []api.Expr { return append(list, expr(77, "spare", 7))[:len(list)] }
	levels := []string{"low", "high", "low", "spare"}
	edges := [][2]string{{"low", "high"}, {"nowhere", "nowhere"}, {"spare", "spare"}}
	labels := []api.Label{{Kind: "input", Name: "pin", Level: "high"}, {Kind: "sink", Name: "log", Level: "low"}, {Kind: "lock", Name: "l", Level: "low"}, {Kind: "chan", Name: "c", Level: "high"}, {Kind: "var", Name: "g", Level: "low"}, {Kind: "input", Name: "pin", Level: "low"}, {Kind: "spare"}}
	last := expr(api.EBinary, "%", 0, exprs(name("pin", 2), num(10, 8))...)
	field := expr(api.EField, "f", 9, exprs(expr(api.EIndex, "", 3, exprs(name("xs", 0), num(1, 5))...))...)
	hatches := []api.Hatch{{Name: "last", Level: "low", Expr: last}, {Name: "h", Level: "none", Expr: field}, {Name: "spare"}}
	return api.Policy{Levels: levels[:3], Edges: edges[:2], Labels: labels[:6], Hatches: hatches[:2]}
}

// form: of a line its first token and what its others are: n a name, o another one.
var form = regexp.MustCompile(`^(level n|(edge|input|sink|lock|chan|var) nn|hatch nn[no]+)$`)

// model: what the chapter says of a text, in the words of the layers below.
func model(s string) (api.Policy, int, api.Errno) {
	var p api.Policy
	if len(s) > 16384 {
		return p, 0, 12
	}
	for i, line := range strings.Split(s, "\n") {
		if e := modelLine(&p, line); e != api.OK {
			return api.Policy{}, i + 1, e
		}
	}
	return p, 0, 0
}

func modelLine(p *api.Policy, line string) api.Errno {
	list, _, e := lex.Tokens(line)
	if e != 0 || len(list) == 0 {
		return e
	}
	shape := list[0].Text + " "
	for _, k := range list[1:] {
		shape += map[bool]string{true: "n", false: "o"}[k.Kind == api.TName]
	}
	if !form.MatchString(shape) {
		return 32
	}
	most, have := 64, len(p.Labels)
	switch list[0].Text {
	case "level":
		most, have = 8, len(p.Levels)
		p.Levels = append(p.Levels, list[1].Text)
	case "edge":
		have = len(p.Edges)
		p.Edges = append(p.Edges, [2]string{list[1].Text, list[2].Text})
	case "hatch":
		most, have = 8, len(p.Hatches)
		x, _, e := parse.Expr(line[list[3].At:])
		if e != 0 {
			return 32
		}
		p.Hatches = append(p.Hatches, api.Hatch{Name: list[1].Text, Level: list[2].Text, Expr: x})
	default:
		p.Labels = append(p.Labels, api.Label{Kind: list[0].Text, Name: list[1].Text, Level: list[2].Text})
	}
	if have == most {
		return 22
	}
	return 0
}

// same: a text is told as the model tells it; and a policy that comes of it is shown.
func same(t *testing.T, s string) api.Errno {
	t.Helper()
	p, at, e := policy.Parse(s)
	want, wantAt, wantE := model(s)
	if at != wantAt || e != wantE || !equal(p, want) {
		t.Fatalf("%.300q: %.300v %d %d, want %.300v %d %d", s, p, at, e, want, wantAt, wantE)
	}
	if text := spelt(p); e == api.OK && len(text) <= 16384 {
		shows(t, p, text)
	}
	return e
}

// spelt: the text that the chapter tells for a policy that has one.
func spelt(p api.Policy) string {
	var lines []string
	for _, l := range p.Levels {
		lines = append(lines, "level "+l)
	}
	for _, e := range p.Edges {
		lines = append(lines, "edge "+e[0]+" "+e[1])
	}
	for _, l := range p.Labels {
		lines = append(lines, l.Kind+" "+l.Name+" "+l.Level)
	}
	for _, h := range p.Hatches {
		text, _ := tree.ShowExpr(h.Expr)
		lines = append(lines, "hatch "+h.Name+" "+h.Level+" "+text)
	}
	if lines == nil {
		return ""
	}
	return strings.Join(lines, "\n") + "\n"
}

// P5.1, P5.2: a text of all kinds of lines.
func TestWhole(t *testing.T) {
	parses(t, wholeText, whole())
	shows(t, whole(), wholeText)
	same(t, wholeText)
	// Blanks may stand wherever they may between tokens; a place in a hatch is counted from its first token on.
	p := hatch("x", "y", expr(api.EBinary, "+", 0, name("a", 1), num(1, 4)))
	p.Levels, p.Edges, p.Labels = []string{"low"}, [][2]string{{"a", "b"}}, []api.Label{{Kind: "var", Name: "g", Level: "b"}}
	text := "level low\nedge a b\nvar g b\nhatch x y ( a + 1 )\n"
	for _, s := range []string{"hatch x y(a +1)\nedge a b\nvar g b\nlevel low", "\n\n  hatch  x  y   (a +1)  \nvar   g b \n \n\nlevel low \nedge a b\n \n", "level low\nhatch x y (a +1)\nvar g b\nedge a b\n"} {
		parses(t, s, p)
		got, _, _ := policy.Parse(s)
		shows(t, got, text)
	}
}

// P5.1: each kind of line alone, and what is nearly one.
func TestLines(t *testing.T) {
	for s, want := range map[string]api.Policy{
		"": {}, " ": {}, "\n": {}, "\n\n \n": {}, " \n ": {},
		"level low": level("low"), "level level": level("level"), "level edge\n": level("edge"), " level a_1 ": level("a_1"), "level abcdefghijklmnop": level("abcdefghijklmnop"),
		"edge a b": edge("a", "b"), "edge a a": edge("a", "a"), "edge edge level": edge("edge", "level"),
		"input a b": label("input", "a", "b"), "sink a b": label("sink", "a", "b"), "lock a b": label("lock", "a", "b"), "chan a b": label("chan", "a", "b"), "var a b": label("var", "a", "b"), "var hatch level": label("var", "hatch", "level"),
		"hatch a b 1": hatch("a", "b", num(1, 0)), "hatch a b true": hatch("a", "b", api.Expr{Kind: api.EBool, Num: 1}), "hatch hatch hatch hatch": hatch("hatch", "hatch", name("hatch", 0)), "hatch a b nil": hatch("a", "b", expr(api.ENil, "", 0)), "hatch a b release a": hatch("a", "b", expr(api.ERelease, "a", 0)), "hatch a b new a": hatch("a", "b", expr(api.ENew, "a", 0)), "hatch a b   make  ( 2 )": hatch("a", "b", expr(api.EMake, "", 0, num(2, 8))), "hatch a b x[1:y]": hatch("a", "b", expr(api.ESlice, "", 1, name("x", 0), num(1, 2), name("y", 4))), "hatch a b(-x)": hatch("a", "b", expr(api.EUnary, "-", 0, name("x", 2))), "hatch a b len(x)": hatch("a", "b", expr(api.ELen, "", 0, name("x", 4))),
	} {
		parses(t, s, want)
		same(t, s)
	}
	for _, s := range []string{
		"level", "level 1", "level if", "level input", "level a b", "level a ,", "level a 1", "level ;", "levels a", "a", "1", ";", "if", "if a", "a level", "level\nlow",
		"edge", "edge a", "edge a 1", "edge 1 a", "edge a var", "edge var a", "edge a b c", "edge a , b", "edge a < b", "edge a\nb", "order a b",
		"input", "input a", "input a 1", "input if low", "sink a b c", "sink 1 a", "lock a;", "lock a b;", "chan a 1", "chan a 1 b", "chan chan a", "var a int", "var a", "func a b", "thread a b", "struct a b", "out a b", "release a b", "global a b", "inputs a b",
		"hatch", "hatch a", "hatch a b", "hatch a b ", "hatch a 1", "hatch a (1)", "hatch 1 b 1", "hatch a 1 b", "hatch if b 1", "hatch a if 1", "hatch a b (", "hatch a b )", "hatch a b (1", "hatch a b (1+)", "hatch a b (1)", "hatch a b 1 2", "hatch a b x y", "hatch a b 1 ;", "hatch a b -1", "hatch a b !x", "hatch a b if", "hatch a b x.1", "hatch a b x[]", "hatch a b f(1)", "hatch a b (1\n+ 1)", "hatch a b\n1",
	} {
		fails(t, s, 1, api.ErrLine)
		fails(t, "level a\n\n"+s+"\nlevel a", 3, api.ErrLine)
		same(t, s)
	}
}

// P5.1: layer 2's errors of a line.
func TestLexErrors(t *testing.T) {
	re := strings.Repeat
	for s, want := range map[string]api.Errno{
		"#": api.ErrByte, "level #": api.ErrByte, "level A": api.ErrByte, "level a\t": api.ErrByte, "level a\r": api.ErrByte, "\x00": api.ErrByte, "level é": api.ErrByte, "hatch a b (1+_)": api.ErrByte,
		"level 007": api.ErrNumber, "hatch a b 01": api.ErrNumber, "hatch a b " + re("9", 19): api.ErrNumber, "00": api.ErrNumber,
		"level " + re("n", 17): api.ErrLong, re("level ", 3) + re("n", 17): api.ErrLong, "hatch a b " + re("n", 17): api.ErrLong, re("n", 17): api.ErrLong,
		// They are told ahead of what the line says, wherever they stand.
		"if if #": api.ErrByte, "hatch a b ( 01": api.ErrNumber, "01 #": api.ErrNumber, "# 01": api.ErrByte,
		re(";", 4096): api.ErrLine, re(";", 4097): api.ErrLong, re(";", 4096) + "#": api.ErrByte, re(";", 4097) + "#": api.ErrLong,
	} {
		fails(t, s, 1, want)
		fails(t, "level a\n"+s+"\n#\n;", 2, want)
		same(t, s)
	}
	fails(t, re(";", 4097)+"\n#", 1, api.ErrLong)
	fails(t, "level a\n;\n#", 2, api.ErrLine)
	fails(t, "\n#\n;", 2, api.ErrByte)
}

// sum: an expression of so many names one behind the other, 4 n - 3 tokens; it is as deep as it must be.
func sum(n int) string {
	if n == 1 {
		return "x"
	}
	return "(" + sum(n/2) + "+" + sum(n-n/2) + ")"
}

// P5.1: the limits of a line and of its expression.
func TestLongLines(t *testing.T) {
	re := strings.Repeat
	longest := "hatch a b " + sum(1024) // of 4,096 tokens
	if list, _, e := lex.Tokens(longest); e != api.OK || len(list) != 4096 {
		t.Fatal(len(list), e)
	}
	if same(t, longest) != api.OK {
		t.Error("a line of 4,096 tokens")
	}
	fails(t, longest+"x", 1, api.ErrLong)
	fails(t, longest[:len(longest)-1]+";", 1, api.ErrLine)
	fails(t, "level a\n"+strings.Replace(longest, "x", "new x", 1), 2, api.ErrLong)
	// An expression that layer 4 doesn't read says nothing.
	deep := func(n int) string { return "hatch a b " + re("(-", n) + "x" + re(")", n) }
	for n := range 30 {
		if want := map[bool]api.Errno{true: api.OK, false: api.ErrLine}[n <= 22]; same(t, deep(n)) != want {
			t.Error("deep", n)
		}
		if want := map[bool]api.Errno{true: api.OK, false: api.ErrLine}[n <= 8]; same(t, "hatch a b x"+re(".f", n)) != want {
			t.Error("chain", n)
		}
	}
	fails(t, "\n"+deep(23), 2, api.ErrLine)
}

// P5.1: of each kind so many, and one more; the first line that is wrong is told.
func TestMany(t *testing.T) {
	re := strings.Repeat
	kinds := []struct {
		line, wrong string
		most        int
	}{{"level a\n", "level\n", 8}, {"edge a b\n", "edge a\n", 64}, {"input a b\n", "input a\n", 64}, {"sink a b\n", "sink a b c\n", 64}, {"lock a b\n", "lock\n", 64}, {"chan a b\n", "chan a 1\n", 64}, {"var a b\n", "var a int\n", 64}, {"hatch a b 1\n", "hatch a b (\n", 8}}
	for i, k := range kinds {
		full := re(k.line, k.most)
		for s, want := range map[string]api.Errno{full: api.OK, re("\n \n", 70) + full: api.OK, full + " \n\n": api.OK} {
			if got := same(t, s); got != want {
				t.Errorf("%.20q: %d, want %d", s, got, want)
			}
		}
		fails(t, full+k.line, k.most+1, api.ErrMany)
		fails(t, full+strings.TrimSuffix(k.line, "\n"), k.most+1, api.ErrMany)
		fails(t, "\n \n"+full+"\n"+k.line, k.most+4, api.ErrMany)
		fails(t, full+k.line+"#", k.most+1, api.ErrMany)
		fails(t, full+"#\n"+k.line, k.most+1, api.ErrByte)
		// A line that is none of those told isn't one more.
		fails(t, full+k.wrong, k.most+1, api.ErrLine)
		fails(t, full+strings.TrimSuffix(k.wrong, "\n")+" 01\n", k.most+1, api.ErrNumber)
		for j, other := range kinds {
			labels := 2 <= i && i <= 6 && 2 <= j && j <= 6
			if i == j || labels {
				continue
			}
			if e := same(t, full+re(other.line, other.most)); e != api.OK {
				t.Errorf("%q and %q: %d", k.line, other.line, e)
			}
			fails(t, full+other.line+k.line, k.most+2, api.ErrMany)
		}
	}
	// All labels are counted together.
	five := "input a b\nsink a b\nlock a b\nchan a b\nvar a b\n"
	same(t, re(five, 12)+"var a b\nvar a b\nvar a b\nvar a b\n")
	for _, k := range kinds[2:7] {
		fails(t, re(five, 13), 65, api.ErrMany)
		fails(t, re(five, 12)+re("sink a b\n", 4)+k.line, 65, api.ErrMany)
	}
}

// P5.1: a text's greatest length, whatever stands in it.
func TestLongTexts(t *testing.T) {
	re := strings.Repeat
	for s, want := range map[string]api.Errno{
		re("\n", 16384): api.OK, re(" ", 16384): api.OK, "level a" + re(" ", 16377): api.OK, re("\n", 16377) + "level a": api.OK,
	} {
		if got := same(t, s); got != want {
			t.Errorf("%.20q: %d", s, got)
		}
	}
	for _, s := range []string{re("\n", 16385), re(" ", 16385), re("#", 16385), "#" + re("\n", 16384), "level a" + re(" ", 16378), re("level a\n", 2049), re("n", 1<<20)} {
		fails(t, s, 0, api.ErrLong)
	}
	fails(t, re("\n", 16383)+"#", 16384, api.ErrByte)
	fails(t, re("\n", 16382)+";\n", 16383, api.ErrLine)
	fails(t, re("level a\n", 2048), 9, api.ErrMany)
}

var parts = strings.Split("level edge input sink lock chan var hatch hatch low high pin if int 1 2 007 # ( ) + - % . [ ] len , ; nnnnnnnnnnnnnnnnn", " ")

// P5.1, P5.2: texts of all sorts of lines, right and wrong.
func TestRandomTexts(t *testing.T) {
	seen := map[api.Errno]int{}
	for seed := range uint64(4000) {
		m := rand.New(rand.NewPCG(seed, 5))
		var s strings.Builder
		for range m.IntN(100) {
			s.WriteString(randomLine(m))
			s.WriteString([]string{"\n", "\n", " \n", "\n\n"}[m.IntN(4)])
		}
		seen[same(t, s.String())]++
		seen[same(t, strings.TrimSuffix(s.String(), "\n"))]++
	}
	for _, e := range []api.Errno{api.OK, api.ErrByte, api.ErrNumber, api.ErrLong, api.ErrLine, api.ErrMany} {
		if seen[e] < 40 {
			t.Error("seldom", e, seen)
		}
	}
}

func randomLine(m *rand.Rand) string {
	pick := func(s string) string { list := strings.Fields(s); return list[m.IntN(len(list))] }
	names := "low high pin a_1 level edge hatch n"
	if m.IntN(100) == 0 {
		var s string
		for range 1 + m.IntN(6) {
			s += parts[m.IntN(len(parts))] + " "
		}
		return s
	}
	blank := strings.Repeat(" ", 1+m.IntN(2))
	switch m.IntN(9) {
	case 0:
		return "level " + pick(names)
	case 1, 2:
		return "edge" + blank + pick(names) + blank + pick(names)
	case 3, 4, 5, 6:
		return pick("input sink lock chan var") + blank + pick(names) + blank + pick(names)
	case 7:
		return "hatch " + pick(names) + blank + pick(names) + " " + randomExpr(m, 3)
	}
	return ""
}

func randomExpr(m *rand.Rand, deep int) string {
	arg := func() string { return randomExpr(m, deep-1) }
	if deep == 0 {
		return []string{"1", "pin", "nil", "true", "new a", "release b"}[m.IntN(6)]
	}
	switch m.IntN(8) {
	case 0, 1, 2:
		return "(" + arg() + []string{"+", " % ", "<=", " -"}[m.IntN(4)] + arg() + ")"
	case 3:
		return "(-" + arg() + ")"
	case 4:
		return "len( " + arg() + ")"
	case 5:
		return arg() + "[" + arg() + "]"
	case 6:
		return arg() + ".f"
	}
	return arg()
}

// P5.2: names, kinds and expressions that no line has.
func TestNotShown(t *testing.T) {
	wrong := []string{"", " ", "if", "input", "var", "A", "1", "1a", "_a", "#", "a b", " a", "a ", "a\n", "\na", "a\nlevel b", "a\nb", "a b 1\nhatch c", "é", "a\x00", "a\t", "a;", "-", strings.Repeat("a", 17)}
	for _, s := range wrong {
		shows(t, level(s), "no")
		shows(t, edge(s, "b"), "no")
		shows(t, edge("a", s), "no")
		shows(t, label("input", s, "b"), "no")
		shows(t, label("var", "a", s), "no")
		shows(t, hatch(s, "b", num(1, 0)), "no")
		shows(t, hatch("a", s, num(1, 0)), "no")
		shows(t, hatch("a", "b", name(s, 0)), "no")
		for i := range 3 {
			p := api.Policy{Levels: []string{"a", "b", "c"}}
			p.Levels[i] = s
			shows(t, p, "no")
		}
	}
	for _, kind := range append(wrong, "level", "edge", "hatch", "global", "inputs", "Input", "input a\nsink", "input ", " sink", "thread", "struct", "func", "int", "out") {
		if kind != "input" && kind != "var" {
			shows(t, label(kind, "a", "b"), "no")
			shows(t, label(kind, "a", "b c"), "no")
			shows(t, label(kind, "a", ""), "no")
		}
	}
	for _, e := range []api.Expr{{}, {Kind: 77}, {Kind: -1}, num(-1, 0), num(1e18, 0), {Kind: api.EInt, Name: "a"}, {Kind: api.EBool, Num: 2}, {Kind: api.EName}, expr(api.EName, "a", 0, num(1, 0)), expr(api.EName, "a\nlevel b", 0), expr(api.EName, "a . f", 0), expr(api.EBinary, "%", 0, num(1, 0)), expr(api.EBinary, "=", 0, num(1, 0), num(1, 0)), expr(api.EUnary, "-", 0, api.Expr{}), expr(api.ELen, "", 0)} {
		shows(t, hatch("a", "b", e), "no")
		shows(t, hatch("a", "b 1", e), "no")
		shows(t, hatch("a", "b", expr(api.EUnary, "-", 0, e)), "no")
		shows(t, api.Policy{Levels: []string{"a"}, Hatches: []api.Hatch{{Name: "a", Level: "b", Expr: num(1, 0)}, {Name: "a", Level: "b", Expr: e}}}, "no")
	}
	// What is written in one field and read as another, or moves from one to the next.
	shows(t, label("level", "a", ""), "no")
	shows(t, api.Policy{Labels: []api.Label{{Kind: "edge", Name: "a", Level: "b"}}}, "no")
	shows(t, api.Policy{Hatches: []api.Hatch{{}}}, "no")
	shows(t, api.Policy{Edges: make([][2]string, 1)}, "no")
	shows(t, hatch("a b", "1", api.Expr{}), "no")
	shows(t, hatch("a", "b", expr(api.EName, "x", 5)), "hatch a b x\n")
}

// P5.2: as many of each as there may be, and one more; the longest texts.
func TestGreat(t *testing.T) {
	re := strings.Repeat
	full := func(levels, edges, labels, hatches int) api.Policy {
		return api.Policy{Levels: slices.Repeat([]string{"a"}, levels), Edges: slices.Repeat([][2]string{{"a", "b"}}, edges), Labels: slices.Repeat([]api.Label{{Kind: "chan", Name: "a", Level: "b"}}, labels), Hatches: slices.Repeat([]api.Hatch{{Name: "a", Level: "b", Expr: num(1, 0)}}, hatches)}
	}
	shows(t, full(8, 64, 64, 8), re("level a\n", 8)+re("edge a b\n", 64)+re("chan a b\n", 64)+re("hatch a b 1\n", 8))
	for _, p := range []api.Policy{full(9, 0, 0, 0), full(0, 65, 0, 0), full(0, 0, 65, 0), full(0, 0, 0, 9), full(9, 64, 64, 8), full(8, 65, 64, 8), full(8, 64, 65, 8), full(8, 64, 64, 9), full(1<<20, 0, 0, 0), full(0, 1<<20, 0, 0), full(0, 0, 1<<20, 0), full(0, 0, 0, 1<<16), {Levels: make([]string, 1<<22)}, {Hatches: make([]api.Hatch, 1<<20)}} {
		shows(t, p, "no")
	}
	// A line may have 4,096 tokens, of which three stand ahead of the expression.
	x, _, e := parse.Expr(sum(1024))
	text, shown := tree.ShowExpr(x)
	if e != api.OK || shown != api.OK {
		t.Fatal(e, shown)
	}
	shows(t, hatch("a", "b", x), "hatch a b "+text+"\n")
	for s, want := range map[string]api.Errno{strings.Replace(sum(1024), "x", "new y", 1): api.ErrLine, strings.Replace(sum(1024), "x", "(-y)", 1): api.ErrLine, strings.Replace(sum(1023), "(x+x)", "(-(-x))", 1): api.OK} {
		x, _, e := parse.Expr(s)
		if _, shown := tree.ShowExpr(x); e != api.OK || shown != api.OK {
			t.Fatal(e, shown)
		}
		if _, got := policy.Show(hatch("a", "b", x)); got != want {
			t.Errorf("%.40q: %d, want %d", s, got, want)
		}
	}
}

// P5.2: a text's greatest length.
func TestLongestShown(t *testing.T) {
	a, _, _ := parse.Expr(sum(1024))
	b, _, _ := parse.Expr(sum(1019))
	p := api.Policy{Levels: []string{"a"}, Edges: [][2]string{{"a", "b"}}, Hatches: []api.Hatch{{Name: "a", Level: "b", Expr: a}, {Name: "a", Level: "b", Expr: b}, {Name: "a", Level: "b", Expr: num(1, 0)}}}
	less := 16384 - len(spelt(p))
	if less < 0 || less > 14 {
		t.Fatal(less)
	}
	for _, field := range []*string{&p.Levels[0], &p.Edges[0][0], &p.Edges[0][1], &p.Hatches[0].Name, &p.Hatches[2].Level} {
		was := *field
		*field = was + strings.Repeat("x", less)
		text := spelt(p)
		if len(text) != 16384 {
			t.Fatal(len(text))
		}
		shows(t, p, text)
		*field += "x"
		fails(t, spelt(p), 0, api.ErrLong)
		shows(t, p, "no")
		*field = was
	}
}

// P1: what is far greater than any text comes to an end.
func TestEnds(t *testing.T) {
	long := strings.Repeat("n", 1<<24)
	longs := slices.Repeat([]string{long}, 1<<16)
	shows(t, api.Policy{Levels: longs}, "no")
	shows(t, api.Policy{Levels: longs[:8]}, "no")
	shows(t, api.Policy{Edges: slices.Repeat([][2]string{{long, long}}, 1<<16)}, "no")
	shows(t, api.Policy{Labels: slices.Repeat([]api.Label{{Kind: long, Name: long, Level: long}}, 1<<16)}, "no")
	shows(t, api.Policy{Hatches: slices.Repeat([]api.Hatch{{Name: long, Level: long, Expr: name(long, 0)}}, 1<<12)}, "no")
	shows(t, label("input", "a", strings.Repeat("\n", 1<<24)), "no")
	loop := expr(api.EBinary, "+", 0, api.Expr{}, num(1, 0))
	loop.Args[0] = loop
	shows(t, hatch("a", "b", loop), "no")
	shows(t, api.Policy{Hatches: slices.Repeat([]api.Hatch{{Name: "a", Level: "b", Expr: loop}}, 1<<16)}, "no")
	wide := num(1, 0)
	for range 22 {
		wide = expr(api.EBinary, "+", 0, wide, wide)
	}
	shows(t, hatch("a", "b", wide), "no")
}

// P1, P2: all bytes; an answer hangs on its argument alone.
func TestAnyBytes(t *testing.T) {
	m := rand.New(rand.NewPCG(1, 2))
	for range 3000 {
		b := make([]byte, m.IntN(60))
		for i := range b {
			b[i] = byte(m.IntN(256))
		}
		same(t, string(b))
		same(t, "level a\n"+string(b))
	}
	for range 3 {
		fails(t, "level a\nlevel 1", 2, api.ErrLine)
		shows(t, level("1"), "no")
		parses(t, wholeText, whole())
		shows(t, whole(), wholeText)
	}
}

// P5.3: what is handed in is as it was, in its spare room too, be it right or wrong.
func TestUnchanged(t *testing.T) {
	for i, spoil := range []func(p *api.Policy){
		func(p *api.Policy) {},
		func(p *api.Policy) { p.Levels[1] = "if" },
		func(p *api.Policy) { p.Edges[0][1] = "" },
		func(p *api.Policy) { p.Labels[0].Kind = "level" },
		func(p *api.Policy) { p.Hatches[1].Expr.Args[0].Name = "x" },
	} {
		p, want := whole(), whole()
		spoil(&p)
		spoil(&want)
		s, e := policy.Show(p)
		if i == 0 && (s != wholeText || e != api.OK) || i > 0 && (s != "" || e != api.ErrLine) {
			t.Errorf("%d: %q %d", i, s, e)
		}
		if !reflect.DeepEqual(full(p.Levels), full(want.Levels)) || !reflect.DeepEqual(full(p.Edges), full(want.Edges)) || !reflect.DeepEqual(full(p.Labels), full(want.Labels)) || !reflect.DeepEqual(full(p.Hatches), full(want.Hatches)) {
			t.Errorf("%d: changed: %v", i, p)
		}
		for j, h := range p.Hatches {
			if !reflect.DeepEqual(full(h.Expr.Args), full(want.Hatches[j].Expr.Args)) {
				t.Error("changed behind the arguments", i, j)
			}
		}
	}
}

// full: a list to its memory's end.
func full[T any](list []T) []T { return list[:cap(list)] }

// span is where a list or a text lies in memory, with its spare room.
type span struct{ from, to uintptr }

func spanOf[T any](list []T) span {
	var one T
	from := uintptr(unsafe.Pointer(unsafe.SliceData(list)))
	return span{from, from + uintptr(cap(list))*unsafe.Sizeof(one)}
}

func spanOfText(s string) span {
	from := uintptr(unsafe.Pointer(unsafe.StringData(s)))
	return span{from, from + uintptr(len(s))}
}

func (a span) shares(b span) bool { return a.from < b.to && b.from < a.to }

// spans: the lists of a policy, and its texts.
func spans(p api.Policy) (lists, texts []span) {
	lists = append(lists, spanOf(p.Levels), spanOf(p.Edges), spanOf(p.Labels), spanOf(p.Hatches))
	name := func(list ...string) {
		for _, s := range list {
			texts = append(texts, spanOfText(s))
		}
	}
	name(p.Levels...)
	for _, e := range p.Edges {
		name(e[:]...)
	}
	for _, l := range p.Labels {
		name(l.Kind, l.Name, l.Level)
	}
	var exprs func(e api.Expr)
	exprs = func(e api.Expr) {
		name(e.Name)
		lists = append(lists, spanOf(e.Args))
		for _, arg := range e.Args {
			exprs(arg)
		}
	}
	for _, h := range p.Hatches {
		name(h.Name, h.Level)
		exprs(h.Expr)
	}
	return lists, texts
}

// P5.3: what is answered is new memory.
func TestNewMemory(t *testing.T) {
	s := strings.Clone(wholeText)
	a, _, _ := policy.Parse(s)
	b, _, _ := policy.Parse(s)
	lists, texts := spans(a)
	others, _ := spans(b)
	for i, x := range lists {
		for _, y := range append(slices.Clone(lists[:i]), others...) {
			if x.shares(y) {
				t.Error("two lists share memory")
			}
		}
	}
	for _, x := range texts {
		if x.shares(spanOfText(s)) {
			t.Error("the policy keeps the text")
		}
	}
	full(a.Levels)[0], full(a.Edges)[0][0], full(a.Labels)[0].Name, full(a.Hatches)[0].Expr.Args[0].Name = "?", "?", "?", "?"
	if !equal(b, whole()) {
		t.Error("two answers share memory", b)
	}
	text, _ := policy.Show(b)
	_, texts = spans(b)
	for _, x := range texts {
		if x.shares(spanOfText(text)) {
			t.Error("the text is what was handed in")
		}
	}
}
