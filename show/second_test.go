package show_test

import (
	"fmt"
	"slices"
	"strconv"
	"strings"

	"sorrel/api"
	"sorrel/parse"
	"sorrel/runes"
)

// This is a second reckoning of what the chapter says, on other ways than the program's: brackets are found by reading the text without them, Lisp's text is read back, and soundness is told by a stack.

// parts is how many parts an operator has; a hole is no operator, but has none either.
var parts = map[int]int{
	api.OpLit: 0, api.OpVar: 0, api.OpHole: 0, api.OpNeg: 1, api.OpNot: 1, api.OpIf: 3,
	api.OpAdd: 2, api.OpSub: 2, api.OpMul: 2, api.OpDiv: 2, api.OpRem: 2, api.OpAnd: 2, api.OpOr: 2, api.OpXor: 2, api.OpShl: 2, api.OpShr: 2, api.OpEq: 2, api.OpLt: 2,
}

var signs = map[int]string{
	api.OpAdd: " + ", api.OpSub: " - ", api.OpMul: " * ", api.OpDiv: " / ", api.OpRem: " % ", api.OpAnd: " & ", api.OpOr: " | ", api.OpXor: " ^ ", api.OpShl: " << ", api.OpShr: " >> ", api.OpEq: " == ", api.OpLt: " < ",
}

// words has the operators' words in the order of their numbers, OpNeg first.
var words = strings.Fields("neg not add sub mul div rem and or xor shl shr eq lt if")

// tree is an expression or a pattern, with its parts.
type tree struct {
	api.Node
	parts []tree
}

func lit(n int64) tree              { return tree{Node: api.Node{Op: api.OpLit, N: n}} }
func vari(s string) tree            { return tree{Node: api.Node{Op: api.OpVar, Name: s}} }
func hole(s string) tree            { return tree{Node: api.Node{Op: api.OpHole, Name: s}} }
func do(op int, parts ...tree) tree { return tree{api.Node{Op: op}, parts} }

// list writes a tree out in the order in which its nodes are finished, from a place on.
func (t tree) list(from int) []api.Node {
	var l []api.Node
	n := t.Node
	for _, p := range t.parts {
		l = append(l, p.list(from+len(l))...)
		n.Kids = append(n.Kids, from+len(l)-1)
	}
	return append(l, n)
}

func (t tree) nodes() []api.Node { return t.list(0) }

// plain is the tree with a variable in the place of each hole: that can be read, however many holes there are and however large it is.
func (t tree) plain() tree {
	out := tree{Node: t.Node}
	if t.Op == api.OpHole {
		out.Op = api.OpVar
	}
	for _, p := range t.parts {
		out.parts = append(out.parts, p.plain())
	}
	return out
}

// text tells two lists apart, node by node; an empty list of kids is the same as none.
func text(l []api.Node) string {
	var s strings.Builder
	for _, n := range l {
		fmt.Fprintf(&s, "%d %d %q %v; ", n.Op, n.N, n.Name, n.Kids)
	}
	return s.String()
}

// means tells whether a text is read as a tree.
func means(s string, t tree) bool {
	l, _, e := parse.Parse(strings.ReplaceAll(s, "@", ""))
	return e == api.OK && text(l) == text(t.plain().nodes())
}

// frame writes an operator with the texts of its parts as they are.
func frame(op int, texts []string) string {
	switch {
	case op == api.OpNeg:
		return "-" + texts[0]
	case op == api.OpNot:
		return "~" + texts[0]
	case op == api.OpIf:
		return texts[0] + " ? " + texts[1] + " : " + texts[2]
	}
	return strings.Join(texts, signs[op])
}

// shown is what Show must answer: brackets stand just where the text without them is read as something else.
func shown(t tree) string {
	switch t.Op {
	case api.OpLit:
		return strconv.FormatInt(t.N, 10)
	case api.OpVar:
		return t.Name
	case api.OpHole:
		return "@" + t.Name
	}
	var bare, safe []string
	for _, p := range t.parts {
		s := shown(p)
		bare = append(bare, s)
		safe = append(safe, "("+s+")")
	}
	for i := range bare {
		one := slices.Clone(safe)
		one[i] = bare[i]
		if !means(frame(t.Op, one), t) {
			bare[i] = safe[i]
		}
	}
	return frame(t.Op, bare)
}

// unlisp reads what Lisp must answer, and nothing else: each tree has just one such text. It answers what is left of the text.
func unlisp(s string) (tree, string, bool) {
	if !strings.HasPrefix(s, "(") {
		end := strings.IndexAny(s+")", " )")
		return unleaf(s[:end]), s[end:], true
	}
	end := strings.IndexAny(s, " )")
	if end < 0 || !slices.Contains(words, s[1:end]) {
		return tree{}, s, false
	}
	t := do(api.OpNeg + slices.Index(words, s[1:end]))
	s = s[end:]
	for strings.HasPrefix(s, " ") {
		p, rest, ok := unlisp(s[1:])
		if !ok {
			return tree{}, s, false
		}
		t.parts = append(t.parts, p)
		s = rest
	}
	return t, strings.TrimPrefix(s, ")"), strings.HasPrefix(s, ")")
}

// unleaf reads a leaf; a number is one only as it is written without noughts ahead.
func unleaf(s string) tree {
	if n, err := strconv.ParseInt(s, 10, 64); err == nil && strconv.FormatInt(n, 10) == s {
		return lit(n)
	}
	if name, ok := strings.CutPrefix(s, "@"); ok {
		return hole(name)
	}
	return vari(s)
}

// proper tells whether a list is a sound expression or a sound pattern.
func proper(l []api.Node) bool {
	var open []int
	var names []string
	for i, n := range l {
		count, known := parts[n.Op]
		if !known || len(n.Kids) != count || len(open) < count || !slices.Equal(n.Kids, open[len(open)-count:]) {
			return false
		}
		named := n.Op == api.OpVar || n.Op == api.OpHole
		if named != runes.Name(n.Name) || !named && n.Name != "" || n.N != 0 && n.Op != api.OpLit {
			return false
		}
		if n.Op == api.OpHole && !slices.Contains(names, n.Name) {
			names = append(names, n.Name)
		}
		open = append(open[:len(open)-count], i)
	}
	most := 64
	if len(names) > 0 {
		most = 16
	}
	return len(open) == 1 && len(l) <= most && len(names) <= 6
}
