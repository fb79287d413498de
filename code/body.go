package code

import "portcullis/api"

// body is where an operation stands: the code, the function, and how many global words there are.
type body struct {
	m     api.Module
	f     api.Func
	words int
}

// right: is it an operation that can stand there?
func (b body) right(o api.Op) bool {
	return b.fieldsRight(o) && b.argsRight(o) && b.waysRight(o)
}

// fieldsRight: are the fields A to F, and K, what the kind asks for?
func (b body) fieldsRight(o api.Op) bool {
	if o.Kind == api.OCall {
		return within(0, len(b.m.Funcs)-1, o.A) && within(0, 0, o.C, o.D, o.E, o.F) && b.resultRight(o)
	}
	if (o.Kind == api.OMake || o.Kind == api.OCut) && o.A == o.B {
		return false
	}
	highest, known := b.highest(o.Kind)
	for i, n := range [6]int{o.A, o.B, o.C, o.D, o.E, o.F} {
		known = known && within(0, highest[i], n)
	}
	return known && kRight(o)
}

// highest: the highest numbers that the fields A to F may have, the lowest being 0, so that a field without one is 0 alone; false for no kind. OCall, whose B may be -1, isn't asked for.
func (b body) highest(kind int) ([6]int, bool) {
	reg, word := b.f.Regs-1, b.words-1
	switch kind {
	case api.OConst, api.OIf:
		return [6]int{reg}, true
	case api.OInput:
		return [6]int{reg, len(b.m.Inputs) - 1}, true
	case api.ORelease:
		return [6]int{reg, len(b.m.Hatches) - 1}, true
	case api.OMove, api.OUnary:
		return [6]int{reg, reg}, true
	case api.OBinary, api.OMake:
		return [6]int{reg, reg, reg}, true
	case api.OLoad:
		return [6]int{reg, word}, true
	case api.OStore:
		return [6]int{word, reg}, true
	case api.ONew:
		return [6]int{reg, len(b.m.Structs) - 1}, true
	case api.OGet:
		return [6]int{reg, reg, maxObject - 1}, true
	case api.OPut:
		return [6]int{reg, maxObject - 1, reg}, true
	case api.OIndex, api.OElem:
		return [6]int{reg, reg, reg, reg}, true
	case api.OCut:
		return [6]int{reg, reg, reg, reg, reg, reg}, true
	case api.OLock, api.OUnlock:
		return [6]int{len(b.m.Locks) - 1}, true
	case api.OSend:
		return [6]int{len(b.m.Chans) - 1, reg}, true
	case api.ORecv:
		return [6]int{reg, len(b.m.Chans) - 1}, true
	case api.OOut:
		return [6]int{len(b.m.Sinks) - 1, reg}, true
	case api.OReturn:
		return [6]int{}, true
	}
	return [6]int{}, false
}

// kRight: is K what the kind asks for?
func kRight(o api.Op) bool {
	switch o.Kind {
	case api.OConst:
		return true
	case api.OUnary:
		return within(api.UNeg, api.UNot, o.K)
	case api.OBinary:
		return within(api.BAdd, api.BNe, o.K)
	case api.OLoad, api.OStore, api.OGet, api.OPut:
		return within(0, 1, o.K)
	}
	return o.K == 0
}

// resultRight: does the result of a call, of a function that is there, go nowhere, or whole to registers that are?
func (b body) resultRight(o api.Op) bool {
	if o.K == 0 {
		return o.B == -1
	}
	return o.K == b.m.Funcs[o.A].Result && within(0, b.f.Regs-o.K, o.B)
}

// argsRight: are there as many Args as there must be, each a register? A call's function is known to be there.
func (b body) argsRight(o api.Op) bool {
	count := 0
	switch o.Kind {
	case api.OCall:
		count = b.m.Funcs[o.A].Params
	case api.OReturn:
		count = b.f.Result
	}
	return len(o.Args) == count && within(0, b.f.Regs-1, o.Args...)
}

// waysRight: do Next and Else lead to operations where the kind goes on there, and are they 0 where it doesn't?
func (b body) waysRight(o api.Op) bool {
	last := len(b.f.Code) - 1
	switch o.Kind {
	case api.OReturn:
		return within(0, 0, o.Next, o.Else)
	case api.OIf:
		return within(0, last, o.Next, o.Else)
	}
	return within(0, last, o.Next) && o.Else == 0
}
