package hatch

import (
	"math"
	"slices"

	"portcullis/api"
)

// Beyond so many expressions in all, or within each other, nothing is promised; what stands within itself has more.
const (
	mostParts = math.MaxInt32
	mostDeep  = 1 << 16
)

// Value: what a hatch gives.
func Value(e api.Expr, names []string, inputs []int) int {
	v := &valuer{names, inputs, mostParts}
	value := v.expr(e, 1)
	if v.left < 0 {
		return 0
	}
	return value
}

// valuer tells what expressions give of inputs.
type valuer struct {
	names  []string
	inputs []int
	left   int
}

// expr: what an expression that is so deep gives.
func (v *valuer) expr(e api.Expr, deep int) int {
	v.left--
	if deep > mostDeep {
		v.left = -1
	}
	switch {
	case v.left < 0 || !mayHave(e):
		return 0
	case e.Kind == api.EInt:
		return e.Num
	case e.Kind == api.EName:
		return v.input(e.Name)
	case e.Kind == api.EUnary && len(e.Args) == 1:
		return operated("-", [2]int{0, v.expr(e.Args[0], deep+1)})
	case e.Kind == api.EBinary && len(e.Args) == 2:
		return operated(e.Name, [2]int{v.expr(e.Args[0], deep+1), v.expr(e.Args[1], deep+1)})
	}
	return 0
}

// input: the value of the first input of a name.
func (v *valuer) input(name string) int {
	i := slices.Index(v.names, name)
	if i < 0 || i >= len(v.inputs) {
		return 0
	}
	return v.inputs[i]
}

// operated: what a sign gives of two values.
func operated(sign string, of [2]int) int {
	switch sign {
	case "+":
		return of[0] + of[1]
	case "-":
		return of[0] - of[1]
	case "*":
		return of[0] * of[1]
	}
	if of[1] == 0 {
		return 0
	}
	if sign == "/" {
		return of[0] / of[1]
	}
	return of[0] % of[1]
}
