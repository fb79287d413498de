package code

import (
	"strconv"

	"portcullis/api"
)

// names are those of the kinds, by their numbers.
var names = [...]string{
	api.OConst: "const", api.OInput: "input", api.ORelease: "release", api.OMove: "move",
	api.OUnary: "unary", api.OBinary: "binary", api.OLoad: "load", api.OStore: "store",
	api.ONew: "new", api.OMake: "make", api.OGet: "get", api.OPut: "put",
	api.OIndex: "index", api.OElem: "elem", api.OCut: "cut",
	api.OLock: "lock", api.OUnlock: "unlock", api.OSend: "send", api.ORecv: "recv",
	api.OOut: "out", api.OIf: "if", api.OCall: "call", api.OReturn: "return",
}

// Show: code as a text.
func Show(m api.Module) (string, api.Errno) {
	if !Right(m) {
		return "", api.ErrCode
	}
	var p page
	for i, f := range m.Funcs {
		p.line("func", i, f.Params, f.Regs, f.Result)
		for j, o := range f.Code {
			p.op(j, o)
		}
	}
	return string(p), api.OK
}

// page is a text that grows by lines.
type page []byte

// op adds the line of an operation, which has this number.
func (p *page) op(number int, o api.Op) {
	parts := []any{number, names[o.Kind], o.A, o.B, o.C, o.D, o.E, o.F, o.K, o.Args}
	switch o.Kind {
	case api.OReturn:
	case api.OIf:
		parts = append(parts, "->", o.Next, o.Else)
	default:
		parts = append(parts, "->", o.Next)
	}
	p.line(parts...)
}

// line adds a line of parts, one at least, with a blank between; each number of a list is a part, so an empty list is none.
func (p *page) line(parts ...any) {
	for _, part := range parts {
		switch x := part.(type) {
		case string:
			*p = append(append(*p, x...), ' ')
		case int:
			p.numbers(x)
		case []int:
			p.numbers(x...)
		}
	}
	(*p)[len(*p)-1] = '\n'
}

// numbers adds numbers, each with a blank behind it.
func (p *page) numbers(list ...int) {
	for _, n := range list {
		*p = append(strconv.AppendInt(*p, int64(n), 10), ' ')
	}
}
