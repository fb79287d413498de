package word_test

import (
	"math"
	"math/big"
	"math/rand/v2"
	"slices"
	"strings"
	"testing"

	"portcullis/api"
	"portcullis/word"
)

// signs: the operators of two operands, by the document's order.
func signs() []string { return strings.Fields("+ - * / % & | < <= == !=") }

// edges: words at which wrapping, signs and truth change.
func edges() []int {
	list := []int{0, 1, 2, 3, 5, 7, 10, 1<<31 - 1, 1 << 31, 1 << 32, 3037000499, 3037000500, 1 << 62, math.MaxInt - 1, math.MaxInt}
	for _, n := range slices.Clone(list) {
		list = append(list, -n, ^n)
	}
	return list
}

// wrapped: the word that a number without end becomes in 64 bits.
func wrapped(n *big.Int) int {
	low := new(big.Int).And(n, new(big.Int).SetUint64(math.MaxUint64))
	return int(low.Uint64())
}

// says: 1 if a thing is so.
func says(so bool) int {
	if so {
		return 1
	}
	return 0
}

// model: what the chapter says of an operator by its sign, in numbers without end.
func model(sign string, a, b int) (int, int) {
	x, y, z := big.NewInt(int64(a)), big.NewInt(int64(b)), new(big.Int)
	order := x.Cmp(y)
	switch sign {
	case "+":
		return wrapped(z.Add(x, y)), 0
	case "-":
		return wrapped(z.Sub(x, y)), 0
	case "*":
		return wrapped(z.Mul(x, y)), 0
	case "/", "%":
		if y.Sign() == 0 {
			return 0, api.FDivide
		}
		quotient, rest := new(big.Int).QuoRem(x, y, z)
		if sign == "/" {
			return wrapped(quotient), 0
		}
		return wrapped(rest), 0
	case "&":
		return x.CmpAbs(z) * y.CmpAbs(z), 0
	case "|":
		return max(x.CmpAbs(z), y.CmpAbs(z)), 0
	case "<":
		return says(order < 0), 0
	case "<=":
		return says(order <= 0), 0
	case "==":
		return says(order == 0), 0
	}
	return says(order != 0), 0
}

// P9.1: both operators.
func TestUnary(t *testing.T) {
	for _, c := range [][3]int{
		{api.UNeg, 0, 0}, {api.UNeg, 1, -1}, {api.UNeg, -1, 1}, {api.UNeg, 17, -17}, {api.UNeg, math.MaxInt, -math.MaxInt}, {api.UNeg, -math.MaxInt, math.MaxInt}, {api.UNeg, math.MinInt, math.MinInt},
		{api.UNot, 0, 1}, {api.UNot, 1, 0}, {api.UNot, -1, 0}, {api.UNot, 2, 0}, {api.UNot, 1 << 32, 0}, {api.UNot, math.MaxInt, 0}, {api.UNot, math.MinInt, 0},
	} {
		if got, ok := word.Unary(c[0], c[1]); got != c[2] || !ok {
			t.Error(c, got, ok)
		}
	}
	for _, a := range edges() {
		if got, ok := word.Unary(api.UNeg, a); got != wrapped(new(big.Int).Neg(big.NewInt(int64(a)))) || !ok {
			t.Error("-", a, got, ok)
		}
		if got, ok := word.Unary(api.UNot, a); got != says(a == 0) || !ok {
			t.Error("!", a, got, ok)
		}
	}
}

// P9.2: cases by hand.
func TestBinary(t *testing.T) {
	for _, c := range [][4]int{
		{api.BAdd, 3, 4, 7}, {api.BAdd, math.MaxInt, 1, math.MinInt}, {api.BAdd, math.MinInt, -1, math.MaxInt}, {api.BAdd, math.MinInt, math.MinInt, 0},
		{api.BSub, 3, 4, -1}, {api.BSub, 4, 3, 1}, {api.BSub, math.MinInt, 1, math.MaxInt}, {api.BSub, 0, math.MinInt, math.MinInt}, {api.BSub, -1, math.MinInt, math.MaxInt},
		{api.BMul, 3, -4, -12}, {api.BMul, math.MaxInt, 2, -2}, {api.BMul, math.MinInt, -1, math.MinInt}, {api.BMul, 1 << 32, 1 << 32, 0},
		{api.BDiv, 7, 2, 3}, {api.BDiv, -7, 2, -3}, {api.BDiv, 7, -2, -3}, {api.BDiv, -7, -2, 3}, {api.BDiv, 0, 5, 0}, {api.BDiv, math.MinInt, -1, math.MinInt}, {api.BDiv, math.MinInt, 1, math.MinInt}, {api.BDiv, math.MaxInt, -1, -math.MaxInt},
		{api.BRem, 7, 2, 1}, {api.BRem, -7, 2, -1}, {api.BRem, 7, -2, 1}, {api.BRem, -7, -2, -1}, {api.BRem, 0, 5, 0}, {api.BRem, math.MinInt, -1, 0}, {api.BRem, math.MinInt, 10, -8},
		{api.BAnd, 7, 2, 1}, {api.BAnd, 1, 2, 1}, {api.BAnd, -1, math.MinInt, 1}, {api.BAnd, 7, 0, 0}, {api.BAnd, 0, 7, 0}, {api.BAnd, 0, 0, 0},
		{api.BOr, 7, 2, 1}, {api.BOr, 1, -1, 1}, {api.BOr, 0, -1, 1}, {api.BOr, 8, 0, 1}, {api.BOr, 0, 0, 0},
		{api.BLess, 1, 2, 1}, {api.BLess, 2, 2, 0}, {api.BLess, 3, 2, 0}, {api.BLess, -1, 0, 1}, {api.BLess, math.MinInt, math.MaxInt, 1}, {api.BLess, math.MaxInt, math.MinInt, 0},
		{api.BMost, 1, 2, 1}, {api.BMost, 2, 2, 1}, {api.BMost, 3, 2, 0}, {api.BMost, math.MinInt, math.MaxInt, 1}, {api.BMost, math.MaxInt, math.MinInt, 0},
		{api.BSame, 2, 2, 1}, {api.BSame, 2, -2, 0}, {api.BSame, 0, 1 << 32, 0}, {api.BSame, math.MinInt, math.MinInt, 1},
		{api.BNe, 2, 2, 0}, {api.BNe, 2, -2, 1}, {api.BNe, 0, 1 << 32, 1}, {api.BNe, math.MinInt, math.MinInt, 0},
	} {
		if got, fault := word.Binary(c[0], c[1], c[2]); got != c[3] || fault != 0 {
			t.Error(c, got, fault)
		}
	}
}

// P9.2: a division by 0 is a fault without a word, of no other operator.
func TestDivide(t *testing.T) {
	for _, a := range edges() {
		for k := api.BAdd; k <= api.BNe; k++ {
			got, fault := word.Binary(k, a, 0)
			if divides := k == api.BDiv || k == api.BRem; (fault == api.FDivide) != divides || divides && got != 0 || !divides && fault != 0 {
				t.Error(k, a, got, fault)
			}
		}
	}
}

// P9.2 and P9.3: each operator, asked for by its sign, against the model.
func TestModel(t *testing.T) {
	held := func(a, b int) {
		for _, sign := range signs() {
			want, wantFault := model(sign, a, b)
			if got, fault := word.Binary(word.Sign(sign, 2), a, b); got != want || fault != wantFault {
				t.Errorf("%d %s %d: %d %d, want %d %d", a, sign, b, got, fault, want, wantFault)
			}
		}
	}
	for _, a := range edges() {
		for _, b := range edges() {
			held(a, b)
		}
	}
	random := rand.New(rand.NewPCG(9, 9))
	for range 20000 {
		a, b := int(random.Uint64())>>random.IntN(64), int(random.Uint64())>>random.IntN(64)
		held(a, b)
		held(a, a)
	}
}

// P9.1 and P9.2: another k gives nothing.
func TestNoOperator(t *testing.T) {
	kinds := []int{math.MinInt, -1 << 32, 1<<32 + 1, 1<<32 + 4, 1 << 62, math.MaxInt}
	for k := -300; k <= 300; k++ {
		kinds = append(kinds, k)
	}
	for _, k := range kinds {
		for _, a := range []int{0, 1, 5, -1, math.MinInt} {
			if got, ok := word.Unary(k, a); k != api.UNeg && k != api.UNot && (got != 0 || ok) {
				t.Error(k, a, got, ok)
			}
			for _, b := range []int{0, 1, 5, -1, math.MinInt} {
				if got, fault := word.Binary(k, a, b); (k < api.BAdd || k > api.BNe) && (got != 0 || fault != 0) {
					t.Error(k, a, b, got, fault)
				}
			}
		}
	}
}

// P9.3: which operator a sign is, with one operand or with two.
func TestSign(t *testing.T) {
	kinds := []int{api.BAdd, api.BSub, api.BMul, api.BDiv, api.BRem, api.BAnd, api.BOr, api.BLess, api.BMost, api.BSame, api.BNe}
	for i, sign := range signs() {
		if got := word.Sign(sign, 2); got != kinds[i] {
			t.Error(sign, got)
		}
	}
	if word.Sign("-", 1) != api.UNeg || word.Sign("!", 1) != api.UNot {
		t.Error(word.Sign("-", 1), word.Sign("!", 1))
	}
	for _, sign := range append(signs(), "!") {
		if got := word.Sign(sign, 1); sign != "-" && sign != "!" && got != 0 {
			t.Error(sign, got)
		}
		for _, args := range []int{0, 3, 4, -1, -2, 1<<32 + 1, 1<<32 + 2, math.MinInt, math.MinInt + 1, math.MinInt + 2, math.MaxInt} {
			if got := word.Sign(sign, args); got != 0 {
				t.Error(sign, args, got)
			}
		}
	}
	if got := word.Sign("!", 2); got != 0 {
		t.Error(got)
	}
}

// P9.3: no other text of up to two bytes is an operator, nor a longer one.
func TestNoSign(t *testing.T) {
	texts := []string{"", "- ", "<==", "===", "!==", "+\x00", "neg", "<=>", "−", "≤", strings.Repeat("-", 1<<16)}
	for a := range 256 {
		texts = append(texts, string([]byte{byte(a)}))
		for b := range 256 {
			texts = append(texts, string([]byte{byte(a), byte(b)}))
		}
	}
	found := 0
	for _, text := range texts {
		for args := range 4 {
			if got := word.Sign(text, args); got != 0 {
				found++
				if args == 2 && signs()[got-1] != text || args == 1 && []string{"-", "!"}[got-1] != text {
					t.Errorf("%q %d: %d", text, args, got)
				}
			}
		}
	}
	if found != 13 {
		t.Error(found)
	}
}
