package sugar

import (
	"hackamore/api"
	"hackamore/syntax"
)

func node(kind int, text string, kids ...api.Node) api.Node {
	return api.Node{Kind: kind, Text: text, Kids: kids}
}

func word(s string) api.Node { return node(syntax.Word, s) }

func nothing() api.Node { return node(syntax.Nothing, "") }

func this() api.Node { return node(syntax.This, "") }

func name(s string) api.Node { return node(syntax.Name, s) }

func truth(s string) api.Node { return node(syntax.BoolLit, s) }

func dot(e api.Node, s string) api.Node { return node(syntax.Dot, s, e) }

func assign(left, right api.Node) api.Node { return node(syntax.Assign, "", left, right) }

// field returns a field of the receiver.
func field(s string) api.Node { return dot(this(), s) }

// call returns a call of a method, without `?`.
func call(e api.Node, method string, args ...api.Node) api.Node {
	return called(dot(e, method), "", args)
}

func called(callee api.Node, partial string, args []api.Node) api.Node {
	return node(syntax.Call, "", append([]api.Node{callee, word(partial)}, args...)...)
}

// let returns the declaration of a local that is assigned once.
func let(s string, typ api.Node) api.Node { return node(syntax.Decl, s, word("let"), typ) }

// named returns a type by its name.
func named(s, capability, mark string, args []api.Node) api.Node {
	return node(syntax.NamedType, s, append([]api.Node{word(capability), word(mark)}, args...)...)
}

// seq returns a Seq, in which Seqs among the parts are dissolved, or the part if there is one alone.
func seq(l ...api.Node) api.Node {
	if len(l) == 1 {
		return l[0]
	}
	n := node(syntax.Seq, "")
	for _, k := range l {
		if k.Kind == syntax.Seq {
			n.Kids = append(n.Kids, k.Kids...)
		} else {
			n.Kids = append(n.Kids, k)
		}
	}
	return n
}

// copied returns a tree that shares no memory with another one, nor one part with another.
func copied(n api.Node) api.Node {
	kids := make([]api.Node, len(n.Kids))
	for i, k := range n.Kids {
		kids[i] = copied(k)
	}
	n.Kids = kids
	return n
}
