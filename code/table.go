package code

import "arbiter/api"

// The kinds of operands, by the numbers of the document's table.
const (
	noOperand = iota
	intOperand
	localOperand
	targetOperand
	classOperand
	refOperand
	elementOperand
	arrayOperand
	methodOperand
)

// unknownOperand is the kind of what is no instruction.
const unknownOperand = -1

// The word of an instruction stands at the place of its Op; no Op is 0.
var words = [...]string{
	api.IConst:       "iconst",
	api.ILoad:        "iload",
	api.IStore:       "istore",
	api.ALoad:        "aload",
	api.AStore:       "astore",
	api.Null:         "null",
	api.IAdd:         "iadd",
	api.ISub:         "isub",
	api.IMul:         "imul",
	api.IDiv:         "idiv",
	api.Goto:         "goto",
	api.IfEq:         "ifeq",
	api.IfNe:         "ifne",
	api.IfLt:         "iflt",
	api.IfCmpEq:      "ifcmpeq",
	api.IfCmpLt:      "ifcmplt",
	api.IfACmpEq:     "ifacmpeq",
	api.IfNull:       "ifnull",
	api.Pop:          "pop",
	api.Dup:          "dup",
	api.Swap:         "swap",
	api.New:          "new",
	api.NewArray:     "newarray",
	api.MultiNew:     "multinew",
	api.ArrayLength:  "arraylength",
	api.IALoad:       "iaload",
	api.IAStore:      "iastore",
	api.AALoad:       "aaload",
	api.AAStore:      "aastore",
	api.CheckCast:    "checkcast",
	api.InstanceOf:   "instanceof",
	api.InvVirtual:   "invokevirtual",
	api.InvInterface: "invokeinterface",
	api.InvSpecial:   "invokespecial",
	api.InvStatic:    "invokestatic",
	api.IReturn:      "ireturn",
	api.AReturn:      "areturn",
	api.Return:       "return",
	api.Print:        "print",
	api.PrintClass:   "printclass",
}

// Word: the word of an instruction.
func Word(op int) (string, api.Errno) {
	if !isOp(op) {
		return "", api.ErrArg
	}
	return words[op], api.OK
}

// Operand: the kind of its operand; -1, if there is no such instruction.
func Operand(op int) int {
	switch op {
	case api.IConst:
		return intOperand
	case api.ILoad, api.IStore, api.ALoad, api.AStore:
		return localOperand
	case api.Goto, api.IfEq, api.IfNe, api.IfLt, api.IfCmpEq, api.IfCmpLt, api.IfACmpEq, api.IfNull:
		return targetOperand
	case api.New:
		return classOperand
	case api.CheckCast, api.InstanceOf:
		return refOperand
	case api.NewArray:
		return elementOperand
	case api.MultiNew:
		return arrayOperand
	case api.InvVirtual, api.InvInterface, api.InvSpecial, api.InvStatic:
		return methodOperand
	}
	if !isOp(op) {
		return unknownOperand
	}
	return noOperand
}

func isOp(op int) bool {
	return 0 < op && op < len(words)
}

// opOf answers 0 for an unknown word, and so for the empty one, which stands at 0.
func opOf(word string) int {
	for op, known := range words {
		if word == known {
			return op
		}
	}
	return 0
}
