package sample

import (
	"slices"
	"strconv"
	"strings"

	"portcullis/api"
)

// forms are the kinds of operations in the order of api, as Kinds tells them.
const forms = `const AK r*; input AB ri; release AB rh; move AB rr; unary ABK rru; binary ABCK rrrb; load ABK rgk; store ABK grk; new AB ps; make ABC qnr; get ABCK rpxk; put ABCK pxrk;
index ABCD rqnr; elem ABCD qnrr; cut ABCDEF qnqnrr; lock A l; unlock A l; send AB cr; recv AB rc; out AB or; if A r; call ABK f**; return`

// Kinds: of each kind of operation, from 1 on, its name, its fields, and what may stand in each: a number of a register (r; p, if an object must be in it, q and n, where a slice begins and how long it is), an input, a hatch, a global word, a struct, a lock, a channel, a function (its first letter), a sink (o), an object's word (x), an operator with one (u) or two (b) operands, 0 or 1 (k), any number (*).
func Kinds() [][]string {
	list := [][]string{nil}
	for _, form := range strings.Split(forms, ";") {
		list = append(list, append(strings.Fields(form), "", ""))
	}
	return list
}

// Field: an operation's field of a letter.
func Field(o *api.Op, letter rune) *int {
	return map[rune]*int{'A': &o.A, 'B': &o.B, 'C': &o.C, 'D': &o.D, 'E': &o.E, 'F': &o.F, 'K': &o.K}[letter]
}

// Ops: the operations of a text, parted by ";": the kind, its fields, an "r" ahead of each of the Args, "> " ahead of Next where it isn't the operation behind, "| " ahead of Else. At is each one's number.
func Ops(text string) []api.Op {
	var list []api.Op
	kinds := Kinds()
	for i, line := range strings.Split(text, ";") {
		words := strings.Fields(line)
		named := func(form []string) bool { return form != nil && form[0] == words[0] }
		o := api.Op{Kind: slices.IndexFunc(kinds, named), Next: i + 1, At: i}
		if o.Kind == api.OReturn {
			o.Next = 0
		}
		words = words[1:]
		for _, letter := range kinds[o.Kind][1] {
			*Field(&o, letter) = number(words[0])
			words = words[1:]
		}
		for len(words) > 0 {
			switch words[0] {
			case ">":
				o.Next, words = number(words[1]), words[2:]
			case "|":
				o.Else, words = number(words[1]), words[2:]
			default:
				o.Args, words = append(o.Args, number(words[0])), words[1:]
			}
		}
		list = append(list, o)
	}
	return list
}

// Funcs: functions with so many registers each. A text tells how many parameters one has and how many words it gives, ahead of ":", and its operations.
func Funcs(regs int, texts ...string) []api.Func {
	var list []api.Func
	for _, text := range texts {
		head, ops, _ := strings.Cut(text, ":")
		counts := strings.Fields(head)
		list = append(list, api.Func{Params: number(counts[0]), Regs: regs, Result: number(counts[1]), Code: Ops(ops)})
	}
	return list
}

// number: that of a word, which may have an "r" ahead.
func number(word string) int {
	n, _ := strconv.Atoi(strings.TrimPrefix(word, "r"))
	return n
}
