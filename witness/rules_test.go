package witness_test

import (
	"fmt"
	"slices"
	"strings"
	"testing"

	"hackamore/api"
	"hackamore/notation"
	"hackamore/optimize"
	"hackamore/ssa"
	"hackamore/witness"
)

func told(v any) string { return fmt.Sprintf("%v", v) }

// program returns the program of a short text: functions with their parameters, and blocks of instructions, each with the number of
// its Result, ahead of the end. What is left of a line are its words, as layer 19 writes them, but that Type, Text, Name, Lit, N and
// Flag stand behind a letter, and may be missing.
func program(t *testing.T, s string) ssa.Program {
	t.Helper()
	var out strings.Builder
	for line := range strings.Lines(strings.TrimSpace(s)) {
		words := strings.Fields(line)
		if len(words) == 0 {
			continue
		}
		switch words[0] {
		case "func":
			flag, types := "0", ""
			for _, w := range words[2:] {
				if w == "?" {
					flag = "1"
				} else {
					types += " 1:x" + w + ":3:0"
				}
			}
			out.WriteString("func x" + words[1] + " 0:x:0:0 " + flag + types + "\n")
		case "block":
			out.WriteString("block\n")
		case "jump", "branch", "return", "error", "stuck":
			words = append(words, "-", "-")
			out.WriteString(strings.Join(words[:3], " ") + "\n")
		case "try":
			out.WriteString(strings.Join(words[:3], " ") + " " + instruction(words[3:]) + "\n")
		default:
			out.WriteString(instruction(words) + "\n")
		}
	}
	l, line, e := ssa.Parse(out.String())
	if e != api.OK {
		t.Fatalf("error %d in the line %d of\n%s", e, line, out.String())
	}
	p := ssa.Program{Funcs: l, Entities: notation.Program(`
		class ref C is T ref
		class ref D is T ref; J ref
		actor tag A
		primitive val P is J val
		primitive val U8
		trait ref T
		trait box J
		interface ref Any
	`)}
	if at, e := ssa.Check(p); e != api.OK {
		t.Fatalf("error %d at %v of\n%s", e, at, out.String())
	}
	return p
}

// instruction returns the words of an instruction.
func instruction(words []string) string {
	typ, text, name, lit, n, flag, args := "0:x:0:0", "x", "x", "0:0:0:x", "0", "0", "-"
	for _, w := range words[2:] {
		switch w[0] {
		case 't':
			typ = "1:x" + w[1:] + ":3:0"
		case '=':
			text = "x" + w[1:]
		case 'm':
			name = "x" + w[1:]
		case 'b':
			lit = "1:" + w[1:] + ":0:x"
		case 'u':
			lit = "16:" + w[1:] + ":0:x"
		case 'n':
			n = w[1:]
		case 'f':
			flag = "1"
		default:
			args = w
		}
	}
	return strings.Join([]string{words[0], words[1], typ, args, text, name, lit, n, flag}, " ")
}

func number(n uint64) api.Value { return api.Value{Kind: api.ValNumber + 6, Lo: n} }

func truth(n uint64) api.Value { return api.Value{Kind: api.ValBool, Lo: n} }

// step returns a step in the first function.
func step(kind, a, b int) optimize.Step { return optimize.Step{Kind: kind, A: a, B: b} }

// rule is a program, a step, and the program behind it; no text, if the step may not be done.
type rule struct {
	name string
	from string
	s    optimize.Step
	to   string
}

const main = "func main C D\nblock\n"

// rules are steps of which each kind does what it does, and what forbids it.
func rules() []rule {
	fold := func(a int, v api.Value) optimize.Step { return optimize.Step{Kind: optimize.StepFold, A: a, Lit: v} }
	copied := func(a, b int) optimize.Step { return step(optimize.StepCopy, a, b) }
	common := func(a, b int) optimize.Step { return step(optimize.StepCommon, a, b) }
	drop := func(a int) optimize.Step { return step(optimize.StepDrop, a, 0) }
	branch := func(a, b int) optimize.Step { return step(optimize.StepBranch, a, b) }
	join := func(a int) optimize.Step { return step(optimize.StepJoin, a, 0) }
	diamond := "branch 0 1,2\nblock\n%s\njump - 3\nblock\n%s\njump - 3\nblock\n%s"
	shape := func(a, b, c string) string { return fmt.Sprintf(main+diamond, a, b, c) }
	loop := main + "jump - 1\nblock\nphi 2 1,2\nbranch 0 1,2\nblock\nreturn 2"
	return []rule{
		{"copy of a phi", shape("is 2 0,1", "is 3 0,1", "phi 4 1,1\nis 5 4,4\nreturn 4"), copied(4, 1), shape("is 2 0,1", "is 3 0,1", "phi 4 1,1\nis 5 1,1\nreturn 1")},
		{"copy of a phi of two", shape("is 2 0,1", "is 3 0,1", "phi 4 0,1\nreturn 4"), copied(4, 1), ""},
		{"copy of a phi by another one", shape("is 2 0,1", "is 3 0,1", "phi 4 1,1\nreturn 4"), copied(4, 0), ""},
		{"copy of a phi in a circle", loop, copied(2, 1), main + "jump - 1\nblock\nphi 2 1,1\nbranch 0 1,2\nblock\nreturn 1"},
		{"copy of a phi by itself", loop, copied(2, 2), ""},
		{"copy of an item", main + "tuple 2 0,1\nitem 3 2 n1\nreturn 3", copied(3, 1), main + "tuple 2 0,1\nitem 3 2 n1\nreturn 1"},
		{"copy of another item", main + "tuple 2 0,1\nitem 3 2 n1\nreturn 3", copied(3, 0), ""},
		{"copy of no item", main + "tuple 2 0,1\nitem 3 2 n2\nreturn 3", copied(3, 0), ""},
		{"copy of an item of a parameter", main + "item 3 0 n1\nreturn 3", copied(3, 0), ""},
		{"copy of a tuple", main + "tuple 2 0,0\nreturn 2", copied(2, 0), ""},
		{"copy of a parameter", main + "return 0", copied(0, 1), ""},
		{"copy of what nothing makes", main + "return 0", copied(7, 1), ""},
		{"copy of a number below 0", main + "return 0", copied(-1, 1), ""},

		{"fold of a native", main + "const 2 u200\nconst 3 u100\nnative 4 2,3 =U8.add tC\nreturn 4", fold(4, number(44)), main + "const 2 u200\nconst 3 u100\nconst 4 u44 tC\nreturn 4"},
		{"fold with another value", main + "const 2 u200\nconst 3 u100\nnative 4 2,3 =U8.add\nreturn 4", fold(4, number(300)), ""},
		{"fold of what raises", main + "const 2 u200\nconst 3 u100\nnative 4 2,3 =U8.add_partial\nreturn 4", fold(4, api.Value{}), ""},
		{"fold of what does not", main + "const 2 u2\nconst 3 u100\nnative 4 2,3 =U8.add_partial\nreturn 4", fold(4, number(102)), main + "const 2 u2\nconst 3 u100\nconst 4 u102\nreturn 4"},
		{"fold of an unknown method", main + "const 2 u2\nnative 4 2,2 =add\nreturn 4", fold(4, number(4)), ""},
		{"fold behind another dot", main + "const 2 u2\nnative 4 2,2 =x.U8.add\nreturn 4", fold(4, number(4)), ""},
		{"fold of no arguments", main + "native 4 =U8.add\nreturn 4", fold(4, api.Value{}), ""},
		{"fold of a parameter", main + "const 2 u2\nnative 4 0,2 =U8.add\nreturn 4", fold(4, number(4)), ""},
		{"fold of an is", main + "const 2 u2\nconst 3 u2 tC\nis 4 2,3\nreturn 4", fold(4, truth(1)), main + "const 2 u2\nconst 3 u2 tC\nconst 4 b1\nreturn 4"},
		{"fold of an is of others", main + "const 2 u2\nconst 3 b0\nis 4 2,3\nreturn 4", fold(4, truth(0)), main + "const 2 u2\nconst 3 b0\nconst 4 b0\nreturn 4"},
		{"fold of an is, wrongly", main + "const 2 u2\nconst 3 u2\nis 4 2,3\nreturn 4", fold(4, truth(0)), ""},
		{"fold of an is of one value", main + "is 4 0,0\nreturn 4", fold(4, truth(1)), ""},
		{"fold of a const", main + "const 2 u2\nreturn 2", fold(2, number(2)), ""},
		{"fold of a tuple", main + "const 2 u2\ntuple 3 2,2\nreturn 3", fold(3, number(2)), ""},

		{"common", main + "tuple 2 0,1 tC\ntuple 3 0,1 tC\nis 4 2,3\nreturn 3", common(3, 2), main + "tuple 2 0,1 tC\nis 4 2,2\nreturn 2"},
		{"common, but a type", main + "tuple 2 0,1 tC\ntuple 3 0,1 tD\nreturn 3", common(3, 2), ""},
		{"common, the later one", main + "tuple 2 0,1\ntuple 3 0,1\nis 4 2,3\nreturn 3", common(2, 3), main + "tuple 3 0,1\nis 4 3,3\nreturn 3"},
		{"common, used ahead", main + "tuple 2 0,1\nis 4 2,2\ntuple 3 0,1\nreturn 3", common(2, 3), ""},
		{"common of one value", main + "tuple 2 0,1\nreturn 2", common(2, 2), ""},
		{"common of others", main + "tuple 2 0,1\ntuple 3 1,0\nreturn 2", common(2, 3), ""},
		{"common of texts", main + "text 2 =a\ntext 3 =a\nreturn 2", common(3, 2), ""},
		{"common of gets", main + "get 2 0 =f\nget 3 0 =f\nreturn 2", common(3, 2), ""},
		{"common of fits", main + "fits 2 0 tC\nfits 3 0 tC\nreturn 3", common(3, 2), main + "fits 2 0 tC\nreturn 2"},
		{"common of two ways", shape("is 2 0,1", "is 3 0,1\nis 4 3,3", "return 0"), common(3, 2), ""},
		{"common of two ways, unused", shape("is 2 0,1", "is 3 0,1", "return 0"), common(3, 2), shape("is 2 0,1", "", "return 0")},
		{"common of phis", shape("is 2 0,1", "is 3 0,1", "phi 4 0,1\nphi 5 0,1\nis 6 4,5\nreturn 5"), common(5, 4), shape("is 2 0,1", "is 3 0,1", "phi 4 0,1\nis 6 4,4\nreturn 4")},
		{"common of phis of two blocks", main + "jump - 1\nblock\nphi 2 0\njump - 2\nblock\nphi 3 0\nreturn 3", common(3, 2), ""},
		{"common with a parameter", main + "is 2 0,1\nreturn 0", common(2, 1), ""},

		{"drop", main + "make 2 =C\nreturn 0", drop(2), main + "return 0"},
		{"drop of what is used", main + "make 2 =C\nis 3 2,2\nreturn 0", drop(2), ""},
		{"drop of what an end uses", main + "make 2 =C\nreturn 2", drop(2), ""},
		{"drop of what a Call uses", main + "make 2 =C\ntry - 1,2 call 3 2 =m\nblock\nstuck\nblock\nstuck", drop(2), ""},
		{"drop of a set", main + "set 2 0,1 =f\nreturn 0", drop(2), ""},
		{"drop of a store", main + "store 2 0 =x\nreturn 0", drop(2), ""},
		{"drop of a call", main + "call 2 0 =m\nreturn 0", drop(2), ""},
		{"drop of a send", main + "send 2 0 =m\nreturn 0", drop(2), ""},
		{"drop of a phi that uses itself", main + "jump - 1\nblock\nphi 2 1,2\nbranch 0 1,2\nblock\nreturn 0", drop(2), main + "jump - 1\nblock\nbranch 0 1,2\nblock\nreturn 0"},
		{"drop of a parameter", main + "return 0", drop(1), ""},
		{"drop of a try's Result", main + "try - 1,2 call 3 0 =m\nblock\nstuck\nblock\nstuck", drop(3), ""},

		{"branch, true", main + "const 2 b1\nbranch 2 1,2\nblock\nis 3 0,0\njump - 2\nblock\nphi 4 0,1\nreturn 4", branch(0, 0), main + "const 2 b1\njump - 1\nblock\nis 3 0,0\njump - 2\nblock\nphi 4 1\nreturn 4"},
		{"branch, false", main + "const 2 b0\nbranch 2 1,2\nblock\nis 3 0,0\njump - 2\nblock\nphi 4 0,1\nreturn 4", branch(0, 1), main + "const 2 b0\njump - 1\nblock\nphi 4 0\nreturn 4"},
		{"branch, the other way", main + "const 2 b0\nbranch 2 1,2\nblock\nreturn 0\nblock\nreturn 1", branch(0, 0), ""},
		{"branch of a number", main + "const 2 u1\nbranch 2 1,2\nblock\nreturn 0\nblock\nreturn 1", branch(0, 0), ""},
		{"branch of no const", main + "branch 0 1,2\nblock\nreturn 0\nblock\nreturn 1", branch(0, 0), ""},
		{"branch to one block", main + "branch 0 1,1\nblock\nphi 2 1,1\nreturn 2", branch(0, 0), main + "jump - 1\nblock\nphi 2 1\nreturn 2"},
		{"branch to one block by 1", main + "branch 0 1,1\nblock\nphi 2 1,1\nreturn 2", branch(0, 1), ""},
		{"branch to one block with two", main + "branch 0 1,1\nblock\nphi 2 0,1\nreturn 2", branch(0, 0), ""},
		{"branch to one block, false", main + "const 3 b0\nbranch 3 1,1\nblock\nphi 2 0,1\nreturn 2", branch(0, 1), main + "const 3 b0\njump - 1\nblock\nphi 2 1\nreturn 2"},
		{"branch by 2", main + "const 2 b1\nbranch 2 1,2\nblock\nreturn 0\nblock\nreturn 1", branch(0, 2), ""},
		{"branch of no block", main + "return 0", branch(1, 0), ""},
		{"branch of the block -1", main + "return 0", branch(-1, 0), ""},
		{"branch of a jump", main + "jump - 1\nblock\nreturn 0", branch(0, 0), ""},

		{"join", main + "is 2 0,1\njump - 1\nblock\nphi 3 2\nis 4 3,3\nreturn 3", join(0), main + "is 2 0,1\nis 4 2,2\nreturn 2"},
		{"join of a block with two", main + "branch 0 1,2\nblock\njump - 2\nblock\nreturn 0", join(1), ""},
		{"join of a branch", main + "branch 0 1,2\nblock\nreturn 0\nblock\nreturn 0", join(0), ""},
		{"join with itself", main + "branch 0 1,2\nblock\nreturn 0\nblock\njump - 2", join(2), ""},
		{"join of no block", main + "return 0", join(1), ""},
		{"join that turns edges round", main + "branch 0 1,2\nblock\njump - 3\nblock\njump - 4\nblock\njump - 4\nblock\nphi 2 0,1\nreturn 2", join(1), main + "branch 0 1,2\nblock\njump - 3\nblock\njump - 3\nblock\nphi 2 1,0\nreturn 2"},
		{"join with the end of a circle", main + "jump - 1\nblock\nphi 2 0,2\nbranch 0 2,3\nblock\njump - 1\nblock\nreturn 2", join(0), ""},
		{"join in a circle", main + "jump - 1\nblock\nphi 2 0,1\nis 3 2,2\njump - 2\nblock\nis 4 3,3\nbranch 0 1,3\nblock\nreturn 4", join(1), main + "jump - 1\nblock\nphi 2 0,1\nis 3 2,2\nis 4 3,3\nbranch 0 1,2\nblock\nreturn 4"},

		{"stack", main + "make 2 =C tC\nset 3 2,0 =f\nget 4 2 =f\nis 5 2,0\nfits 6 2 tD\nreturn 0", step(optimize.StepStack, 2, 0), main + "make 2 =C tC flag\nset 3 2,0 =f\nget 4 2 =f\nis 5 2,0\nfits 6 2 tD\nreturn 0"},
		{"stack of what is returned", main + "make 2 =C\nreturn 2", step(optimize.StepStack, 2, 0), ""},
		{"stack of what stays", main + "make 2 =C flag\nreturn 0", step(optimize.StepStack, 2, 0), ""},
		{"stack of what is set", main + "make 2 =C\nset 3 0,2 =f\nreturn 0", step(optimize.StepStack, 2, 0), ""},
		{"stack of a text", main + "text 2 =C\nreturn 0", step(optimize.StepStack, 2, 0), ""},

		{"field behind a set", main + "make 2 =C\nset 3 2,0 =f\nset 4 2,1 =g\nget 5 2 =f\nreturn 5", step(optimize.StepField, 5, 0), main + "make 2 =C\nset 3 2,0 =f\nset 4 2,1 =g\nreturn 0"},
		{"field behind a get", main + "make 2 =C\nset 3 2,0 =f\nget 4 2 =f\nget 5 2 =f\nreturn 5", step(optimize.StepField, 5, 4), main + "make 2 =C\nset 3 2,0 =f\nget 4 2 =f\nreturn 4"},
		{"field behind a get, by the set", main + "make 2 =C\nset 3 2,0 =f\nget 4 2 =f\nget 5 2 =f\nreturn 5", step(optimize.StepField, 5, 0), ""},
		{"field behind two sets", main + "make 2 =C\nset 3 2,0 =f\nset 4 2,1 =f\nget 5 2 =f\nreturn 5", step(optimize.StepField, 5, 0), ""},
		{"field of what escapes", main + "make 2 =C\nset 3 2,0 =f\nget 5 2 =f\nreturn 2", step(optimize.StepField, 5, 0), ""},
		{"field of a parameter", main + "set 3 0,1 =f\nget 5 0 =f\nreturn 5", step(optimize.StepField, 5, 1), ""},
		{"field of another block", main + "make 2 =C\nset 3 2,0 =f\njump - 1\nblock\nget 5 2 =f\nreturn 5", step(optimize.StepField, 5, 0), ""},
		{"field of another object", main + "make 2 =C\nmake 6 =C\nset 3 6,0 =f\nget 5 2 =f\nreturn 5", step(optimize.StepField, 5, 0), ""},
		{"field by the value of a set", main + "make 2 =C\nset 3 2,0 =f\nget 5 2 =f\nreturn 5", step(optimize.StepField, 5, 3), ""},
	}
}

// TestRules is P22.1 for Apply: what each step does, and what forbids it.
func TestRules(t *testing.T) {
	for _, c := range append(rules(), calls()...) {
		from := program(t, c.from)
		before := told(from)
		got, e := witness.Apply(from, c.s)
		if told(from) != before {
			t.Fatalf("%s: what was handed in has changed", c.name)
		}
		if c.to == "" {
			if e != witness.ErrRule || told(got) != told(ssa.Program{}) {
				t.Errorf("%s: error %d", c.name, e)
			}
			continue
		}
		to := program(t, c.to)
		if e != api.OK || told(got.Funcs) != told(to.Funcs) {
			text, _ := ssa.Print(got.Funcs)
			want, _ := ssa.Print(to.Funcs)
			t.Errorf("%s: error %d\n%s\nwant\n%s", c.name, e, text, want)
		}
		if at, e := witness.Check(from, to, []optimize.Step{c.s}); e != api.OK || at != 0 {
			t.Errorf("%s: Check: error %d at %d", c.name, e, at)
		}
		if at, e := witness.Check(from, from, []optimize.Step{c.s}); e != witness.ErrResult || at != 1 {
			t.Errorf("%s: Check of the same: error %d at %d", c.name, e, at)
		}
	}
}

// calls are steps of the kinds StepInline and StepDirect.
func calls() []rule {
	inline := step(optimize.StepInline, 2, 0)
	callee := "\nfunc two C D\nblock\nis 2 0,1\nbranch 2 1,2\nblock\njump - 3\nblock\nreturn 0\nblock\nset 5 1,2 =f\nreturn 5"
	direct := func(a int, text string) optimize.Step {
		return optimize.Step{Kind: optimize.StepDirect, A: a, Text: text}
	}
	others := "\nfunc C.m C\nblock\nreturn 0\nfunc D.m D\nblock\nreturn 0\nfunc D.j D D\nblock\nreturn 0\nfunc P.j P D\nblock\nreturn 0\nfunc D.n D\nblock\nreturn 0\nfunc P.o P\nblock\nreturn 0"
	one := func(typ, call string) string {
		return "func main " + typ + " D\nblock\n" + call + "\nreturn 2" + others
	}
	return []rule{
		{"inline", main + "const 9 u1\ndirect 2 1,0 =two tC\nis 3 2,9\nbranch 3 1,2\nblock\nreturn 0\nblock\nreturn 2" + callee, inline,
			main + "const 9 u1\njump - 1\nblock\nis 10 1,0\nbranch 10 2,3\nblock\njump - 4\nblock\njump - 5\nblock\nset 11 0,10 =f\njump - 5\nblock\nphi 2 1,11 tC\nis 3 2,9\nbranch 3 6,7\nblock\nreturn 0\nblock\nreturn 2" + callee},
		{"inline in a circle", main + "jump - 1\nblock\nphi 5 0,2\ndirect 2 5,5 =two\nbranch 2 1,2\nblock\nreturn 2" + callee, inline,
			main + "jump - 1\nblock\nphi 5 0,2\njump - 2\nblock\nis 6 5,5\nbranch 6 3,4\nblock\njump - 5\nblock\njump - 6\nblock\nset 7 5,6 =f\njump - 6\nblock\nphi 2 5,7\nbranch 2 1,7\nblock\nreturn 2" + callee},
		{"inline of itself", main + "direct 2 0,1 =main\nreturn 2", inline, ""},
		{"inline of a call", main + "call 2 0 =m\nreturn 2" + callee, inline, ""},
		{"inline of a partial one", main + "direct 2 =g\nreturn 2\nfunc g ?\nblock\nconst 0 u1\nreturn 0", inline, ""},
		{"inline of one without a return", main + "direct 2 =g\nreturn 2\nfunc g\nblock\nstuck", inline, ""},
		{"inline of one with an error", main + "direct 2 0 =g\nreturn 2\nfunc g C\nblock\nbranch 0 1,2\nblock\nerror\nblock\nreturn 0", inline, ""},
		{"inline of one with a load", main + "direct 2 0 =g\nreturn 2\nfunc g C\nblock\nload 1 =x\nreturn 0", inline, ""},
		{"inline of one with a store", main + "direct 2 0 =g\nreturn 2\nfunc g C\nblock\nstore 1 0 =x\nreturn 0", inline, ""},
		{"inline at a try", main + "try - 1,2 direct 2 0 =g\nblock\nstuck\nblock\nstuck\nfunc g C\nblock\nreturn 0", inline, ""},
		{"inline of one with a try", main + "direct 2 0 =g\nreturn 2\nfunc g C\nblock\nis 5 0,0\ntry - 1,2 call 7 0 =m\nblock\nreturn 7\nblock\nis 6 0,0\nreturn 5", inline,
			main + "jump - 1\nblock\nis 3 0,0\ntry - 2,3 call 4 0 =m\nblock\njump - 4\nblock\nis 5 0,0\njump - 4\nblock\nphi 2 4,3\nreturn 2\nfunc g C\nblock\nis 5 0,0\ntry - 1,2 call 7 0 =m\nblock\nreturn 7\nblock\nis 6 0,0\nreturn 5"},

		{"direct of a class", one("C", "call 2 0 =m"), direct(2, "C.m"), one("C", "direct 2 0 =C.m")},
		{"direct of another function", one("C", "call 2 0 =m"), direct(2, "D.m"), ""},
		{"direct of a trait of two", one("T", "call 2 0 =m"), direct(2, "C.m"), ""},
		{"direct of a trait of which one has none", one("T", "call 2 0 =n"), direct(2, "D.n"), ""},
		{"direct with too few", one("D", "call 2 0 =j"), direct(2, "D.j"), ""},
		{"direct with enough", one("D", "call 2 0,1 =j"), direct(2, "D.j"), one("D", "direct 2 0,1 =D.j")},
		{"direct of a value that is made", one("C", "make 3 =D tD\ncall 2 3 =m"), direct(2, "D.m"), one("C", "make 3 =D tD\ndirect 2 3 =D.m")},
		{"direct of a value without a type", one("C", "make 3 =D\ncall 2 3 =m"), direct(2, "D.m"), ""},
		{"direct of a send", one("C", "send 2 0 =m"), direct(2, "C.m"), ""},
		{"direct of what is one", one("C", "direct 2 0 =C.m"), direct(2, "C.m"), ""},
		{"direct at a try", "func main C\nblock\ntry - 1,2 call 2 0 =m\nblock\nreturn 2\nblock\nstuck" + others, direct(2, "C.m"), "func main C\nblock\ntry - 1,2 direct 2 0 =C.m\nblock\nreturn 2\nblock\nstuck" + others},
		{"direct of a try's Result", "func main C\nblock\ntry - 1,2 call 2 0 =m tD\nblock\ncall 3 2 =n\nreturn 2\nblock\nstuck" + others, direct(3, "D.n"), "func main C\nblock\ntry - 1,2 call 2 0 =m tD\nblock\ndirect 3 2 =D.n\nreturn 2\nblock\nstuck" + others},
		{"direct of nothing", one("C", "call 2 0 =m"), direct(9, "C.m"), ""},
		{"direct of an entity without a class", one("A", "call 2 0 =m"), direct(2, ""), ""},
	}
}

// TestSteps is P22.1 for steps that are none, and for errors of programs.
func TestSteps(t *testing.T) {
	p := program(t, main+"make 2 =C\nreturn 0")
	for name, s := range map[string]optimize.Step{
		"the kind 0":         {},
		"the kind 11":        {Kind: 11},
		"no function":        {Kind: optimize.StepDrop, A: 2, Func: 1},
		"the function -1":    {Kind: optimize.StepDrop, A: 2, Func: -1},
		"a drop with B":      {Kind: optimize.StepDrop, A: 2, B: 1},
		"a drop with Text":   {Kind: optimize.StepDrop, A: 2, Text: "x"},
		"a drop with Lit":    {Kind: optimize.StepDrop, A: 2, Lit: api.Value{Hi: 1}},
		"a copy with Lit":    {Kind: optimize.StepCopy, A: 2, Lit: number(0)},
		"a copy with Text":   {Kind: optimize.StepCopy, A: 2, Text: "x"},
		"a fold with B":      {Kind: optimize.StepFold, A: 2, B: 1},
		"a fold with Text":   {Kind: optimize.StepFold, A: 2, Text: "x"},
		"a common with Lit":  {Kind: optimize.StepCommon, A: 2, Lit: api.Value{Name: "x"}},
		"a branch with Text": {Kind: optimize.StepBranch, Text: "x"},
		"a join with B":      {Kind: optimize.StepJoin, B: 1},
		"an inline with B":   {Kind: optimize.StepInline, A: 2, B: 1},
		"a direct with B":    {Kind: optimize.StepDirect, A: 2, B: -1},
		"a direct with Lit":  {Kind: optimize.StepDirect, A: 2, Lit: api.Value{Kids: make([]api.Value, 1)}},
		"a stack with B":     {Kind: optimize.StepStack, A: 2, B: 1},
		"a field with Text":  {Kind: optimize.StepField, A: 2, Text: "x"},
	} {
		if _, e := witness.Apply(p, s); e != witness.ErrStep {
			t.Errorf("%s: error %d", name, e)
		}
		wrong := p
		wrong.Funcs = append(slices.Clone(p.Funcs), p.Funcs...)
		if _, e := witness.Apply(wrong, s); e != api.ErrTwice {
			t.Errorf("%s of a wrong program: error %d", name, e)
		}
	}
	for name, s := range map[string]optimize.Step{
		"a direct without Text": {Kind: optimize.StepDirect, A: 2},
		"a fold to nothing":     {Kind: optimize.StepFold, A: 2},
		"a drop of 0":           {Kind: optimize.StepDrop},
	} {
		if _, e := witness.Apply(p, s); e != witness.ErrRule {
			t.Errorf("%s: error %d", name, e)
		}
	}
}

// TestCheck is P22.1 and P22.2 for Check.
func TestCheck(t *testing.T) {
	p := program(t, main+"make 2 =C\nmake 3 =C\nreturn 0")
	one := program(t, main+"make 9 =C\nreturn 0")
	none := program(t, main+"return 0")
	drop := func(a int) optimize.Step { return step(optimize.StepDrop, a, 0) }
	other := none
	other.Entities = slices.Clone(none.Entities)
	other.Entities[3].Cap = api.Box
	more := none
	more.Funcs = append(slices.Clone(none.Funcs), ssa.Func{Blocks: none.Funcs[0].Blocks, Params: none.Funcs[0].Params})
	wrong := none
	wrong.Funcs = []ssa.Func{{Name: "main"}}
	for name, c := range map[string]struct {
		p, q ssa.Program
		l    []optimize.Step
		at   int
		e    api.Errno
	}{
		"nothing":               {p, p, nil, 0, api.OK},
		"one":                   {p, one, []optimize.Step{drop(3)}, 0, api.OK},
		"the other one":         {p, one, []optimize.Step{drop(2)}, 0, api.OK},
		"both":                  {p, none, []optimize.Step{drop(3), drop(2)}, 0, api.OK},
		"one too few":           {p, none, []optimize.Step{drop(3)}, 1, witness.ErrResult},
		"one too many":          {p, one, []optimize.Step{drop(3), drop(2)}, 2, witness.ErrResult},
		"nothing to another":    {p, one, nil, 0, witness.ErrResult},
		"one twice":             {p, one, []optimize.Step{drop(3), drop(3)}, 1, witness.ErrRule},
		"one that is none":      {p, none, []optimize.Step{drop(3), {}, drop(9)}, 1, witness.ErrStep},
		"other entities":        {p, other, []optimize.Step{drop(3), drop(2)}, 2, witness.ErrResult},
		"more functions":        {none, more, nil, 0, witness.ErrResult},
		"a wrong result":        {none, wrong, nil, 0, witness.ErrResult},
		"a wrong beginning":     {wrong, none, make([]optimize.Step, 20001), 0, api.ErrSize},
		"20001 steps":           {p, p, make([]optimize.Step, 20001), 0, api.ErrSize},
		"20000 steps":           {p, p, make([]optimize.Step, 20000), 0, witness.ErrStep},
		"other bodies":          {more, none, nil, 0, witness.ErrResult},
		"a wrong one, 1 in all": {wrong, none, nil, 0, api.ErrSize},
	} {
		if at, e := witness.Check(c.p, c.q, c.l); at != c.at || e != c.e {
			t.Errorf("%s: error %d at %d, want %d at %d", name, e, at, c.e, c.at)
		}
	}
}

// TestTargets is P22.1 for Targets.
func TestTargets(t *testing.T) {
	p := program(t, "func C.m C\nblock\nreturn 0\nfunc D.m D\nblock\nreturn 0\nfunc A.m A\nblock\nreturn 0\nfunc P.m P\nblock\nreturn 0\nfunc D.n D\nblock\nreturn 0\nfunc T.n D\nblock\nreturn 0")
	p.Entities = append(p.Entities, p.Entities[0])
	for _, c := range []struct {
		typ, method, want string
		e                 api.Errno
	}{
		{"C ref", "m", "[C.m]", api.OK},
		{"C tag", "m", "[C.m]", api.OK},
		{"T box", "m", "[C.m D.m]", api.OK},
		{"J iso^", "m", "[D.m P.m]", api.OK},
		{"(T ref & J ref)", "m", "[D.m]", api.OK},
		{"(C ref | P val)", "m", "[C.m P.m]", api.OK},
		{"(this -> C ref)", "m", "[C.m]", api.OK},
		{"($X -> (T ref & J ref))", "m", "[D.m]", api.OK},
		{"T ref", "n", "[]", api.ErrNone},
		{"(T ref & J ref)", "n", "[D.n]", api.OK},
		{"Any tag", "m", "[]", api.ErrNone},
		{"X ref", "m", "[]", api.OK},
		{"$X", "m", "[]", api.OK},
		{"(C ref, D ref)", "m", "[]", api.OK},
		{"this", "m", "[]", api.OK},
		{"U8 val", "add", "[]", api.ErrNone},
		{"C ref", "", "[]", api.ErrNone},
	} {
		l, e := witness.Targets(p, notation.Type(c.typ), c.method)
		if e != c.e || told(l) != c.want {
			t.Errorf("%s %s: error %d: %v, want %s", c.typ, c.method, e, l, c.want)
		}
	}
	if _, e := witness.Targets(p, api.Type{}, "m"); e != api.ErrForm {
		t.Errorf("no type: error %d", e)
	}
	p.Funcs = append(p.Funcs, p.Funcs[0])
	if _, e := witness.Targets(p, api.Type{}, "m"); e != api.ErrTwice {
		t.Errorf("a wrong program: error %d", e)
	}
}

// TestEscapes is P22.1 for Escapes and Pure.
func TestEscapes(t *testing.T) {
	for use, want := range map[string]bool{
		"":                         false,
		"get 5 2 =f":               false,
		"set 5 2,0 =f":             false,
		"set 5 2,2 =f":             true,
		"set 5 0,2 =f":             true,
		"is 5 0,2":                 false,
		"is 5 2,2":                 false,
		"fits 5 2 tC":              false,
		"store 5 2 =x":             true,
		"tuple 5 2,0":              true,
		"item 5 2":                 true,
		"call 5 2 =m":              true,
		"native 5 2 =m":            true,
		"send 5 0,2 =m":            true,
		"spawn 5 2 =create mA":     true,
		"branch 2 1,1\nblock":      true,
		"jump - 1\nblock\nphi 5 2": true,
		"try - 1,2 call 5 2 =m\nblock\nstuck\nblock": true,
	} {
		p := program(t, main+"make 2 =C\ntext 3 =a\n"+use+"\nreturn 0")
		if is, e := witness.Escapes(p.Funcs[0], 2); e != api.OK || is != want {
			t.Errorf("%q: %v, error %d", use, is, e)
		}
		for _, v := range []int{-1, 0, 3, 5, 77} {
			if _, e := witness.Escapes(p.Funcs[0], v); e != api.ErrNone {
				t.Errorf("%q: of the value %d: error %d", use, v, e)
			}
		}
	}
	if is, e := witness.Escapes(program(t, main+"make 2 =C\nreturn 2").Funcs[0], 2); e != api.OK || !is {
		t.Errorf("returned: %v, error %d", is, e)
	}
	if _, e := witness.Escapes(ssa.Func{}, 0); e != api.ErrSize {
		t.Errorf("no function: error %d", e)
	}
	pure := []int{ssa.Const, ssa.Native, ssa.Tuple, ssa.Item, ssa.Is, ssa.Fits}
	for op := -1; op < 20; op++ {
		if witness.Pure(ssa.Ins{Op: op}) != slices.Contains(pure, op) {
			t.Errorf("the operation %d is pure, or not", op)
		}
	}
}
