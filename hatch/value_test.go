package hatch_test

import (
	"math"
	"math/big"
	"math/rand/v2"
	"strconv"
	"strings"
	"testing"

	"portcullis/api"
	"portcullis/hatch"
	"portcullis/lex"
	"portcullis/parse"
)

func num(n int) api.Expr { return api.Expr{Kind: api.EInt, Num: n} }

func expr(kind int, name string, args ...api.Expr) api.Expr {
	return api.Expr{Kind: kind, Name: name, Args: args}
}

// gives: what an expression gives of some inputs.
func gives(t *testing.T, s string, names []string, inputs []int, want int) {
	t.Helper()
	e, _, err := parse.Expr(s)
	if got := hatch.Value(e, names, inputs); err != api.OK || got != want {
		t.Errorf("%q of %v %v: %d %d, want %d", s, names, inputs, err, got, want)
	}
}

// P8.2: numbers and names.
func TestNames(t *testing.T) {
	gives(t, "0", nil, nil, 0)
	gives(t, "999999999999999999", nil, nil, 999999999999999999)
	for _, n := range []int{0, 5, -5, math.MaxInt, math.MinInt} {
		if got := hatch.Value(num(n), []string{"x"}, []int{1}); got != n {
			t.Error(n, got)
		}
		gives(t, "x", []string{"w", "x", "y"}, []int{1, n, 2}, n)
		gives(t, "x", []string{"x"}, []int{n, 7}, n)
		// The first one of a name counts, even without a value.
		gives(t, "x", []string{"y", "x", "x", "x"}, []int{8, n, 2, 3}, n)
	}
	for _, names := range [][]string{nil, {}, {"y", "z"}, {"", "xx"}, {"X"}} {
		gives(t, "x", names, []int{1, 2, 3}, 0)
	}
	for _, inputs := range [][]int{nil, {}, {1}, {1, 2}} {
		gives(t, "x", []string{"y", "z", "x"}, inputs, 0)
		gives(t, "( 3 - x )", []string{"y", "z", "x"}, inputs, 3)
	}
	// What lies behind the lists' ends is no part of them.
	gives(t, "x", []string{"y", "x"}[:1], []int{1, 2}, 0)
	gives(t, "x", []string{"y", "x"}, []int{1, 2}[:1], 0)
}

// P8.2: the operators, at the edges of the words.
func TestOperators(t *testing.T) {
	edges := []int{0, 1, 2, 3, 7, 10, 1234, 1 << 31, 1 << 32, 3037000500, 1 << 62, math.MaxInt - 1, math.MaxInt}
	for _, n := range edges {
		edges = append(edges, -n, ^n)
	}
	names := []string{"a", "b"}
	for _, a := range edges {
		gives(t, "( - a )", names, []int{a}, 0-a)
		gives(t, "( - ( - a ) )", names, []int{a}, a)
		for _, b := range edges {
			for _, sign := range []string{"+", "-", "*", "/", "%"} {
				gives(t, "( a "+sign+" b )", names, []int{a, b}, wrapped(sign, a, b))
			}
		}
	}
	for s, want := range map[string]int{
		"( pin % 10 )": 4, "( pin / 10 )": 123, "( ( - pin ) % 10 )": -4, "( ( - pin ) / 10 )": -123, "( pin % ( - 10 ) )": 4, "( pin / ( - 10 ) )": -123,
		"( pin / 0 )": 0, "( pin % 0 )": 0, "( pin / none )": 0, "( 0 / 0 )": 0, "( 5 + ( pin % ( 1 - 1 ) ) )": 5,
		"( min / ( - 1 ) )": math.MinInt, "( min % ( - 1 ) )": 0, "( - min )": math.MinInt, "( min * ( - 1 ) )": math.MinInt, "( min - 1 )": math.MaxInt, "( min + min )": 0, "( ( - 1 ) - min )": math.MaxInt, "( pin - ( 4 - 3 ) )": 1233, "( ( pin - 4 ) - 3 )": 1227,
	} {
		gives(t, s, []string{"pin", "min"}, []int{1234, math.MinInt}, want)
	}
}

// wrapped: what an operator gives, by numbers without end.
func wrapped(sign string, a, b int) int {
	x, y := big.NewInt(int64(a)), big.NewInt(int64(b))
	switch sign {
	case "+":
		x.Add(x, y)
	case "-":
		x.Sub(x, y)
	case "*":
		x.Mul(x, y)
	default:
		if b == 0 {
			return 0
		}
		if sign == "/" {
			x.Quo(x, y)
		} else {
			x.Rem(x, y)
		}
	}
	word := new(big.Int).Lsh(big.NewInt(1), 64)
	x.Mod(x, word)
	if x.Bit(63) == 1 {
		x.Sub(x, word)
	}
	return int(x.Int64())
}

// valued: what tokens that begin with an expression's give, and those behind it.
func valued(tokens []api.Token, inputs map[string]int) (int, []api.Token) {
	first := tokens[0]
	switch {
	case first.Kind == api.TNumber:
		n, _ := strconv.Atoi(first.Text)
		return n, tokens[1:]
	case first.Kind == api.TName:
		return inputs[first.Text], tokens[1:]
	case tokens[1].Text == "-":
		n, rest := valued(tokens[2:], inputs)
		return wrapped("-", 0, n), rest[1:]
	}
	a, rest := valued(tokens[1:], inputs)
	b, behind := valued(rest[1:], inputs)
	return wrapped(rest[0].Text, a, b), behind[1:]
}

// P8.2: expressions of all sorts give what their texts mean.
func TestValues(t *testing.T) {
	seen := map[int]int{}
	for seed := range uint64(3000) {
		k := &maker{Rand: rand.New(rand.NewPCG(seed, 9)), m: &model{words: strings.Fields("input input input input"), names: strings.Fields("a b c d")}}
		var inputs []int
		values := map[string]int{}
		for i := range 4 {
			inputs = append(inputs, pick(k, []int{k.IntN(20) - 10, int(k.Uint64()), math.MinInt, -1, 1000}))
			values[k.m.names[i]] = inputs[i]
		}
		for range 5 {
			s := k.expr(6)
			tokens, _, _ := lex.Tokens(s)
			want, _ := valued(tokens, values)
			gives(t, s, k.m.names, inputs, want)
			seen[want]++
		}
	}
	if len(seen) < 3000 {
		t.Error("the values are all of one sort", len(seen))
	}
}

// P8.2: what a hatch mustn't have gives 0, and only that.
func TestMustnt(t *testing.T) {
	names, inputs := []string{"x", "true", "+", ""}, []int{5, 6, 7, 8}
	for _, s := range []string{"true", "false", "nil", "x . x", "x [ 1 ]", "x [ 1 : 2 ]", "len ( x )", "( ! x )", "( ! 0 )", "( x & x )", "( x | 1 )", "( 1 < x )", "( 1 <= x )", "( x == x )", "( 1 != x )", "new x", "make ( x )", "release x"} {
		gives(t, s, names, inputs, 0)
		gives(t, "( - "+s+" )", names, inputs, 0)
		gives(t, "( "+s+" + 9 )", names, inputs, 9)
		gives(t, "( 9 - "+s+" )", names, inputs, 9)
		gives(t, "( 9 / "+s+" )", names, inputs, 0)
		gives(t, "( x * ( "+s+" - 2 ) )", names, inputs, -10)
	}
	// Operators that no text has.
	five := num(5)
	for _, e := range []api.Expr{
		{}, {Num: 5}, {Name: "x"}, {Kind: -1, Num: 5}, {Kind: 14, Name: "x", Num: 5}, {Kind: api.EBool, Num: 1}, {Kind: api.EBool, Num: 5},
		expr(api.EUnary, "-"), expr(api.EUnary, "-", five, five), expr(api.EUnary, "+", five), expr(api.EUnary, "", five), expr(api.EUnary, "--", five),
		expr(api.EBinary, "+"), expr(api.EBinary, "-"), expr(api.EBinary, "*"), expr(api.EBinary, "/"), expr(api.EBinary, "%"), expr(api.EBinary, "+", five), expr(api.EBinary, "-", five), expr(api.EBinary, "+", five, five, five), expr(api.EBinary, "%", five, num(3), num(1)),
		expr(api.EBinary, "", five, five), expr(api.EBinary, "+-", five, num(3)), expr(api.EBinary, "*/", five, num(3)), expr(api.EBinary, "^", five, num(3)), expr(api.EBinary, ">", five, num(3)), expr(api.EBinary, "-\x00", five, num(3)),
	} {
		if got := hatch.Value(e, names, inputs); got != 0 {
			t.Error(e, got)
		}
		if got := hatch.Value(expr(api.EBinary, "+", num(1), e), names, inputs); got != 1 {
			t.Error(e, got)
		}
	}
}

// P1, P8.2: expressions far deeper and greater than a text's.
func TestDeep(t *testing.T) {
	deep := num(5)
	for range 1<<16 - 2 {
		deep = expr(api.EUnary, "-", deep)
	}
	if got := hatch.Value(deep, nil, nil); got != 5 {
		t.Error("deep", got)
	}
	if got := hatch.Value(expr(api.EUnary, "-", deep), nil, nil); got != -5 {
		t.Error("deepest", got)
	}
	wide := expr(api.EName, "x")
	for range 18 {
		wide = expr(api.EBinary, "+", wide, wide)
	}
	if got := hatch.Value(wide, []string{"x"}, []int{3}); got != 3<<18 {
		t.Error("wide", got)
	}
	// Those that stand within themselves come to an end, and give nothing.
	for kind := range 15 {
		for count := range 4 {
			for _, sign := range []string{"-", "+", "%"} {
				args := make([]api.Expr, count)
				for i := range args {
					args[i] = api.Expr{Kind: kind, Name: sign, Args: args}
				}
				want := 1
				if kind == api.EUnary && count == 1 && sign == "-" || kind == api.EBinary && count == 2 {
					want = 0
				}
				if got := hatch.Value(expr(api.EBinary, "+", num(1), api.Expr{Kind: kind, Name: sign, Args: args}), nil, nil); got != want {
					t.Error(kind, count, sign, got)
				}
			}
		}
	}
}
