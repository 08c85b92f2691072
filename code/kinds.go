package code

import "glean/api"

// kind is a kind of cells, as the set of what such a cell may hold: one bit
// each for numbers, texts and keys. So one kind is below another if it is a
// part of it, and where two meet, there is what is in either. (Keys with
// something else is Junk, whatever else that is: nobody may ask.)
type kind = byte

// Lists of one kind: lists of kinds are texts, a byte each.
const (
	num   = "\x01"
	txt   = "\x02"
	value = "\x03"
	keys  = "\x04"
	junk  = "\x07"
)

// effect tells what an instruction takes and leaves, if that hangs neither on
// its operands nor on what it finds.
func effect(op byte) (takes, leaves string) {
	switch op {
	case api.OpNum, api.OpNf, api.OpNr, api.OpGetline, api.OpDraw:
		return "", num
	case api.OpStr:
		return "", txt
	case api.OpNil, api.OpLoad, api.OpGload:
		return "", value
	case api.OpStore, api.OpGstore, api.OpRet:
		return value, ""
	case api.OpField:
		return num, value
	case api.OpSetfield:
		return num + value, ""
	case api.OpAget:
		return txt, value
	case api.OpAset:
		return txt + value, ""
	case api.OpAin, api.OpFind, api.OpSpan, api.OpSplit, api.OpLen:
		return txt, num
	case api.OpAdel:
		return txt, ""
	case api.OpKeys:
		return "", keys
	case api.OpEach:
		return keys, ""
	case api.OpAdd, api.OpSub, api.OpMul, api.OpDiv, api.OpMod:
		return num + num, num
	case api.OpNeg, api.OpNot:
		return num, num
	case api.OpCat, api.OpSwap:
		return txt + txt, txt
	case api.OpTonum, api.OpTest:
		return value, num
	case api.OpTotext:
		return value, txt
	case api.OpLt, api.OpLe, api.OpEq, api.OpNe, api.OpGt, api.OpGe:
		return value + value, num
	case api.OpPart:
		return txt + num + num, txt
	case api.OpIndex:
		return txt + txt, num
	case api.OpDrop:
		return junk, ""
	case api.OpJz, api.OpExit:
		return num, ""
	}
	return "", ""
}
