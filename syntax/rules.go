package syntax

import (
	"strings"
	"unicode/utf8"

	"hackamore/api"
	"hackamore/token"
)

const operators = " and or xor is isnt + - * / % +? -? *? /? %? << >> == != < <= > >= "

// rules are those of well-formed trees: of Kids by their groups, of Texts by theirs, and what else a kind asks for.
type rules struct {
	shapes [Last + 1]shape
	kids   map[string]func(api.Node) bool
	texts  map[string]func(string) bool
	more   map[int]func(api.Node) bool
}

func newRules() *rules {
	return &rules{shapes: shapes(), kids: kidGroups(), texts: textGroups(), more: conditions()}
}

// kidGroups returns the groups of Kids, but for those of Words.
func kidGroups() map[string]func(api.Node) bool {
	groups := map[string]func(api.Node) bool{"t": IsType, "e": IsExpr, "member": IsMember}
	for _, g := range []string{"t", "e"} {
		some := groups[g]
		groups[g+"?"] = func(n api.Node) bool { return n.Kind == Nothing || some(n) }
	}
	kinds := map[string]int{"use": Use, "entity": Entity, "bounds": Bounds, "bound": Bound, "params": Params, "param": Param,
		"named": Named, "case": Case, "capture": Capture}
	for g, kind := range kinds {
		groups[g] = func(n api.Node) bool { return n.Kind == kind }
	}
	return groups
}

func textGroups() map[string]func(string) bool {
	return map[string]func(string) bool{
		"":         func(s string) bool { return s == "" },
		"any":      utf8.ValidString,
		"name":     token.IsIdent,
		"package":  func(s string) bool { return names(s, "/", len(s)) },
		"pointed":  func(s string) bool { return names(s, ".", 2) },
		"int":      func(s string) bool { return isToken(token.Int, s) },
		"float":    func(s string) bool { return isToken(token.Float, s) },
		"bool":     func(s string) bool { return s == "true" || s == "false" },
		"unary":    func(s string) bool { return s == "not" || s == "-" },
		"operator": func(s string) bool { return listed(operators, s) },
	}
}

// names reports whether a text is of names with a separator between them, at most a number of them.
func names(s, separator string, most int) bool {
	l := strings.Split(s, separator)
	for _, x := range l {
		if !token.IsIdent(x) {
			return false
		}
	}
	return len(l) <= most
}

func isToken(kind int, s string) bool {
	_, e := token.Text([]token.Token{{Kind: kind, Text: s, Line: true}})
	return e == api.OK
}

// listed reports whether a word is one of a list in which all have blanks around them.
func listed(list, word string) bool {
	return word != "" && !strings.Contains(word, " ") && strings.Contains(list, " "+word+" ")
}

// conditions returns what some kinds ask for beside their shapes.
func conditions() map[int]func(api.Node) bool {
	return map[int]func(api.Node) bool{
		Entity: func(n api.Node) bool {
			return n.Kids[0].Text != "type" || n.Kids[3].Kind != Nothing && len(n.Kids) == 4
		},
		Seq: func(n api.Node) bool {
			for _, k := range n.Kids {
				if k.Kind == Seq {
					return false
				}
			}
			return true
		},
		Assign: func(n api.Node) bool { return assignable(n.Kids[0]) },
	}
}

// assignable reports whether an expression may stand on the left of an assignment.
func assignable(n api.Node) bool {
	switch n.Kind {
	case Name, Decl, Dot, Call:
		return true
	case Tuple:
		for _, k := range n.Kids {
			if !assignable(k) {
				return false
			}
		}
		return true
	}
	return false
}

// whole reports whether a tree is well-formed, whatever its size.
func (r *rules) whole(n api.Node) bool {
	if !r.one(n) {
		return false
	}
	for _, k := range n.Kids {
		if !r.whole(k) {
			return false
		}
	}
	return true
}

// one reports whether a node is as the table says, without what its Kids have.
func (r *rules) one(n api.Node) bool {
	if n.Kind < Module || n.Kind > Last {
		return false
	}
	s := r.shapes[n.Kind]
	if !r.texts[s.text](n.Text) || len(n.Kids) < len(s.first)+s.least {
		return false
	}
	for i, group := range s.first {
		if !r.belongs(n.Kids[i], group) {
			return false
		}
	}
	if !r.follow(n.Kids[len(s.first):], s.rest) {
		return false
	}
	more := r.more[n.Kind]
	return more == nil || more(n)
}

// follow reports whether Kids are of one group, and then of another one.
func (r *rules) follow(kids []api.Node, groups [2]string) bool {
	at := 0
	for _, group := range groups {
		for group != "" && at < len(kids) && r.belongs(kids[at], group) {
			at++
		}
	}
	return at == len(kids)
}

func (r *rules) belongs(n api.Node, group string) bool {
	list, isWord := strings.CutPrefix(group, "W:")
	if !isWord {
		return r.kids[group](n)
	}
	if n.Text == "" {
		return n.Kind == Word && listed(list, "-")
	}
	return n.Kind == Word && n.Text != "-" && listed(list, n.Text)
}
