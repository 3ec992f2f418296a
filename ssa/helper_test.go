package ssa_test

import (
	"fmt"
	"strings"

	"hackamore/api"
	"hackamore/ssa"
)

// told returns a text of anything in which a nil list is an empty one.
func told(v any) string { return fmt.Sprintf("%v", v) }

// number returns a number of U8.
func number(n uint64) api.Value { return api.Value{Kind: api.ValNumber + 6, Lo: n} }

func constant(result int) ssa.Ins { return ssa.Ins{Op: ssa.Const, Result: result, Lit: number(1)} }

func phi(result int, args ...int) ssa.Ins { return ssa.Ins{Op: ssa.Phi, Result: result, Args: args} }

func load(result int, name string) ssa.Ins {
	return ssa.Ins{Op: ssa.Load, Result: result, Text: name}
}

func store(result int, name string, v int) ssa.Ins {
	return ssa.Ins{Op: ssa.Store, Result: result, Text: name, Args: []int{v}}
}

func tuple(result int, args ...int) ssa.Ins {
	return ssa.Ins{Op: ssa.Tuple, Result: result, Args: args}
}

func call(result int, args ...int) ssa.Ins {
	return ssa.Ins{Op: ssa.Call, Result: result, Text: "m", Args: args}
}

// end returns the end with a text: a letter, the To, and behind a blank the Args.
func end(s string) ssa.End {
	head, args, _ := strings.Cut(s, " ")
	x := ssa.End{Kind: 1 + strings.IndexByte("jbretstuck", head[0])}
	if head[0] == 's' {
		x.Kind = ssa.Stuck
	}
	for _, c := range head[1:] {
		x.To = append(x.To, int(c-'0'))
	}
	for _, c := range args {
		x.Args = append(x.Args, int(c-'0'))
	}
	return x
}

// block returns a block with an end and instructions.
func block(x string, l ...ssa.Ins) ssa.Block { return ssa.Block{Ins: l, End: end(x)} }

// trying returns a block that ends with a try.
func trying(yes, no int, c ssa.Ins, l ...ssa.Ins) ssa.Block {
	return ssa.Block{Ins: l, End: ssa.End{Kind: ssa.Try, To: []int{yes, no}, Call: c}}
}

// function returns a function with so many parameters.
func function(params int, l ...ssa.Block) ssa.Func {
	return ssa.Func{Name: "f", Params: make([]api.Type, params), Blocks: l}
}
