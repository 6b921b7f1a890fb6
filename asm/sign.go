package asm

import "warrant/api"

// signs are how the operations with a second operand are written; where an s stands ahead, it is a token of its own.
var signs = [...]string{
	api.OpAdd:  "+=",
	api.OpSub:  "-=",
	api.OpMul:  "*=",
	api.OpDiv:  "/=",
	api.OpMod:  "%=",
	api.OpSdiv: "s/=",
	api.OpSmod: "s%=",
	api.OpOr:   "|=",
	api.OpAnd:  "&=",
	api.OpXor:  "^=",
	api.OpLsh:  "<<=",
	api.OpRsh:  ">>=",
	api.OpArsh: "s>>=",
	api.OpMov:  "=",
	api.OpJeq:  "==",
	api.OpJne:  "!=",
	api.OpJgt:  ">",
	api.OpJge:  ">=",
	api.OpJlt:  "<",
	api.OpJle:  "<=",
	api.OpJsgt: "s>",
	api.OpJsge: "s>=",
	api.OpJslt: "s<",
	api.OpJsle: "s<=",
	api.OpJset: "&",
}

// atom is what an atomic operation does, and how that is written.
type atom struct {
	imm  int
	sign string
}

// atoms are those that may be with AtomFetch or without.
var atoms = [...]atom{
	{api.AtomAdd, "+="},
	{api.AtomOr, "|="},
	{api.AtomAnd, "&="},
	{api.AtomXor, "^="},
}

// turning is how an operation on the order of bytes is written.
type turning struct {
	op   int
	name string
}

var turnings = [...]turning{
	{api.OpLe, "le"},
	{api.OpBe, "be"},
	{api.OpBswap, "swap"},
}
