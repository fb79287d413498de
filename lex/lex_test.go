package lex_test

import (
	"regexp"
	"slices"
	"strconv"
	"strings"
	"testing"
	"unsafe"

	"portcullis/api"
	"portcullis/lex"
)

var words = strings.Fields("bool call chan else false func if input int len lock make new nil out recv release return send set sink struct thread true unlock var while")

// tokenForm tells the tokens by the chapter's words: a name or a word, a number, a sign.
var tokenForm = regexp.MustCompile(`^(?:([a-z][a-z0-9_]*)|([0-9]+)|(<=|==|!=|[{}()\[\],;.:=+\-*/%<!&|]))`)

// model: what the chapter says of a text.
func model(s string) ([]api.Token, int, api.Errno) {
	if len(s) > 16384 {
		return nil, 0, 12
	}
	var list []api.Token
	for at := 0; at < len(s); {
		if s[at] == 32 || s[at] == 10 {
			at++
			continue
		}
		m := tokenForm.FindStringSubmatch(s[at:])
		if m == nil {
			return nil, at, 10
		}
		k := api.Token{Text: m[0], At: at}
		switch {
		case slices.Contains(words, m[0]):
			k.Kind = 4
		case m[1] != "":
			k.Kind = 1
		case m[2] != "":
			k.Kind = 2
		default:
			k.Kind = 3
		}
		if k.Kind == 1 && len(m[0]) > 16 || len(list) == 4096 {
			return nil, at, 12
		}
		if k.Kind == 2 && (len(m[0]) > 18 || len(m[0]) > 1 && m[0][0] == '0') {
			return nil, at, 11
		}
		list = append(list, k)
		at += len(m[0])
	}
	return list, 0, 0
}

func same(t *testing.T, s string) {
	t.Helper()
	list, at, e := lex.Tokens(s)
	wantList, wantAt, want := model(s)
	if e != want || at != wantAt || !slices.Equal(list, wantList) {
		t.Errorf("%.60q: %v %d %d, want %v %d %d", s, list, at, e, wantList, wantAt, want)
	}
	name := len(s) <= 16 && len(wantList) == 1 && wantList[0].Kind == 1 && wantList[0].Text == s
	if lex.Name(s) != name {
		t.Errorf("%.60q: Name is not %v", s, name)
	}
	if lex.Word(s) != slices.Contains(words, s) {
		t.Errorf("%.60q: Word", s)
	}
}

// texts: every text of so many parts.
func texts(parts []string, size int, tell func(string)) {
	if size == 0 {
		tell("")
		return
	}
	texts(parts, size-1, func(s string) {
		for _, p := range parts {
			tell(s + p)
		}
	})
}

// P2.1
func TestTokensOfShortTexts(t *testing.T) {
	var bytes []string
	for b := range 256 {
		bytes = append(bytes, string([]byte{byte(b)}))
	}
	for size := range 3 {
		texts(bytes, size, func(s string) { same(t, s) })
	}
	for size := range 5 {
		texts(strings.Split("a if 0 7 _ < = ! + # A", " "), size, func(s string) { same(t, s) })
		texts([]string{"b", "len", "1", "_", " ", "\n", "-", "=", "<"}, size, func(s string) { same(t, s) })
	}
}

// P2.1: names, words, numbers and signs are as long as they can be.
func TestTokensAreLong(t *testing.T) {
	for s, want := range map[string]string{
		"a1 <=-3;":      "a1 <= - 3 ;",
		"ifx if x if_":  "ifx if x if_",
		"returning":     "returning",
		"returnx9":      "returnx9",
		"1while":        "1 while",
		"12ab34":        "12 ab34",
		"<==":           "<= =",
		"===":           "== =",
		"!==":           "!= =",
		"=<=":           "= <=",
		"!!=":           "! !=",
		"<\n=":          "< =",
		"&&||":          "& & | |",
		"x[i:j].f(,)":   "x [ i : j ] . f ( , )",
		"{a=b+c*d/e%f}": "{ a = b + c * d / e % f }",
		" \n \n":        "",
		"":              "",
	} {
		list, at, e := lex.Tokens(s)
		var got []string
		for _, k := range list {
			got = append(got, k.Text)
		}
		if at != 0 || e != api.OK || strings.Join(got, " ") != want {
			t.Errorf("%q: %q %d %d", s, got, at, e)
		}
	}
}

// P2.1: every word and every sign has its kind; what is nearly a word is a name.
func TestKinds(t *testing.T) {
	if len(words) != 27 {
		t.Fatal(len(words))
	}
	for _, w := range words {
		for s, want := range map[string]int{w: api.TWord, w + "s": api.TName, w + "_": api.TName, w + "0": api.TName, w[:len(w)-1] + "_": api.TName} {
			if l, _, e := lex.Tokens(s); e != 0 || len(l) != 1 || l[0] != (api.Token{Kind: want, Text: s}) {
				t.Error(s, l, e)
			}
		}
	}
	for _, s := range strings.Fields("<= == != { } ( ) [ ] , ; . : = + - * / % < ! & |") {
		if l, _, e := lex.Tokens("\n" + s); e != 0 || len(l) != 1 || l[0] != (api.Token{Kind: api.TSign, Text: s, At: 1}) {
			t.Error(s, l, e)
		}
	}
}

// P2.1: the limits, and which error is first.
func TestEdges(t *testing.T) {
	re := strings.Repeat
	for i, s := range []string{
		re(" ", 16384), re(" ", 16385), re("#", 16385), re("a ", 8192), re("\n", 16383) + "#", re("\n", 16383) + "a",
		re("a", 16), re("a", 17), " x " + re("a", 17), re("_", 17), "a" + re("_", 15), "a" + re("9", 16), re("a", 17) + "#", "#" + re("a", 17),
		re("z", 16384), re("1", 16384), "release" + re("d", 9), "release" + re("d", 10),
		"0", "00", "01", "10", "0 0", "0a", "a0", re("9", 18), re("9", 19), "1" + re("0", 17), "1" + re("0", 18), "0" + re("0", 18), "-" + re("8", 18), "-" + re("8", 19), "007", "-01",
		re(";", 4096), re(";", 4097), re(";", 4095) + "01", re(";", 4096) + "01", re(";", 4096) + re("1", 19), re(";", 4096) + re("a", 17), re(";", 4096) + "if", re(";", 4096) + " \n ", re(";", 4096) + " \n #", re(";", 4096) + "x#", re(";", 4095) + "<=", re(";", 4095) + "<==",
		re("a ", 4096), re("a ", 4097), re("==", 4096), re("==", 4097), re("if\n", 4097), re("1 ", 4097),
		"a1 <=-3;", "aB", "a\t", "\r\n", "a\x00", "\x80", "é", "a\xff", "_", "_a", "1_", "a>b", "a\"b", "$", "@", "^", "~", "`", "?", "'", "\\", "if\v",
	} {
		t.Run(strconv.Itoa(i), func(t *testing.T) { same(t, s) })
	}
	for _, c := range []struct {
		s    string
		at   int
		want api.Errno
	}{
		{"007", 0, api.ErrNumber}, {"aB", 1, api.ErrByte}, {"x " + re("1", 19), 2, api.ErrNumber}, {re("a", 17), 0, api.ErrLong},
		{re(" ", 16385), 0, api.ErrLong}, {re(";", 4096) + " 01", 4097, api.ErrLong}, {re(";", 4096) + " _", 4097, api.ErrByte}, {"01 #", 0, api.ErrNumber}, {"# 01", 0, api.ErrByte},
	} {
		if l, at, e := lex.Tokens(c.s); len(l) != 0 || at != c.at || e != c.want {
			t.Errorf("%.30q: %v %d %d", c.s, l, at, e)
		}
	}
}

// P2.2
func TestWordsAndNames(t *testing.T) {
	for _, w := range words {
		if !lex.Word(w) || lex.Name(w) {
			t.Error(w)
		}
		for _, s := range []string{" " + w, w + " ", w + "\n", strings.ToUpper(w), w + w, w + "\x00", w + " " + w} {
			if lex.Word(s) {
				t.Errorf("%q is no word", s)
			}
		}
	}
	for s, want := range map[string]bool{
		"a": true, "z": true, "a_": true, "a__9": true, "iff": true, "i": true, "lens": true, strings.Repeat("a", 16): true, "abcdefghijklmnop": true, "qrstuvwxyz012345": true, "a6789_": true,
		"": false, "_": false, "_a": false, "1": false, "1a": false, "A": false, "aA": false, " a": false, "a ": false, "a\n": false, "a-b": false, "a.b": false, "é": false, "a\x00": false, "`": false, "{": false, "a`": false, "a{": false, "a/": false, "a:": false,
		strings.Repeat("a", 17): false, strings.Repeat("a", 1<<20): false, "if": false,
	} {
		if lex.Name(s) != want {
			t.Errorf("%.20q: Name is not %v", s, want)
		}
	}
	if lex.Word("") || lex.Word(strings.Join(words, " ")) || lex.Word(strings.Repeat("if", 1<<20)) {
		t.Error("Word")
	}
}

// P2.3, P2: the answer is the text's alone, and nothing of an earlier one.
func TestNewMemory(t *testing.T) {
	s := "thread t { out lo 12 + pin ; }"
	a, _, _ := lex.Tokens(s)
	b, _, _ := lex.Tokens(s)
	want, _, _ := model(s)
	for i := range a[:cap(a)] {
		a[:cap(a)][i] = api.Token{Kind: -1, Text: "?", At: -1}
	}
	if !slices.Equal(b, want) {
		t.Error("two answers share memory", b)
	}
	from := uintptr(unsafe.Pointer(unsafe.StringData(s)))
	for _, k := range b {
		if p := uintptr(unsafe.Pointer(unsafe.StringData(k.Text))); p >= from && p < from+uintptr(len(s)) {
			t.Error("a token keeps the text", k)
		}
	}
	lex.Tokens("# no token")
	if c, at, e := lex.Tokens(s); at != 0 || e != 0 || !slices.Equal(c, want) {
		t.Error("an earlier call shows", c, at, e)
	}
}
