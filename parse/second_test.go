package parse_test

import (
	"math/big"
	"strings"
	"unicode/utf8"

	"sorrel/api"
)

// This is a second reckoning of what the chapter says, on another way than the program's: two stacks, of operators that wait and of trees.

// tree is an expression or a pattern as a tree.
type tree struct {
	op    int
	n     int64
	name  string
	parts []tree
}

func lit(n int64) tree              { return tree{op: api.OpLit, n: n} }
func vari(s string) tree            { return tree{op: api.OpVar, name: s} }
func hole(s string) tree            { return tree{op: api.OpHole, name: s} }
func do(op int, parts ...tree) tree { return tree{op: op, parts: parts} }

// nodes writes a tree out as the list that DOC.md's word 'Expression' tells of.
func (t tree) nodes() []api.Node {
	var l []api.Node
	t.write(&l)
	return l
}

func (t tree) write(l *[]api.Node) {
	var k []int
	for _, p := range t.parts {
		p.write(l)
		k = append(k, len(*l)-1)
	}
	*l = append(*l, api.Node{Op: t.op, N: t.n, Name: t.name, Kids: k})
}

// spelling is one way in which a sign is written; where several stand in a text, the first of this list counts.
type spelling struct{ written, sign string }

var spellings = []spelling{
	{"<<", "<<"}, {">>", ">>"}, {"==", "=="},
	{"(", "("}, {")", ")"}, {"+", "+"}, {"-", "-"}, {"*", "*"}, {"/", "/"}, {"%", "%"}, {"&", "&"}, {"|", "|"}, {"^", "^"}, {"~", "~"}, {"<", "<"}, {"?", "?"}, {":", ":"}, {"@", "@"},
	{"\u2212", "-"}, {"\u00d7", "*"}, {"\u00b7", "*"}, {"\u00f7", "/"}, {"\u00ac", "~"}, {"\u2227", "&"}, {"\u2228", "|"}, {"\u2295", "^"}, {"\u226a", "<<"}, {"\u226b", ">>"}, {"\u2261", "=="},
}

const (
	blanks  = " \t\n\r\u00a0\u3000"
	scripts = "0123456789٠١٢٣٤٥٦٧٨٩０１２３４５６７８９"
	indices = "₀₁₂₃₄₅₆₇₈₉"
	// These are not all letters that there are: the ends of the chapter's spans, and some.
	letters = "abcdefghijklmnopqrstuvwxyzABCDEFGHIJKLMNOPQRSTUVWXYZ_\u00c0\u00d6\u00d8\u00f6\u00f8\u024fàéößμέγ\u0370\u037d\u037f\u0386\u0388\u03ffαωΩ\u0400\u0481\u048a\u052fЖук\u4e00\u9fff名\U00010400\U0001044f"
)

// binary is an operator between two parts: its level, and whether it makes a list.
type binary struct {
	op, level int
	list      bool
}

var binaries = map[string]binary{
	"|": {api.OpOr, 2, true}, "^": {api.OpXor, 3, true}, "&": {api.OpAnd, 4, true}, "==": {api.OpEq, 5, false}, "<": {api.OpLt, 6, false},
	"<<": {api.OpShl, 7, true}, ">>": {api.OpShr, 7, true}, "+": {api.OpAdd, 8, true}, "-": {api.OpSub, 8, true}, "*": {api.OpMul, 9, true}, "/": {api.OpDiv, 9, true}, "%": {api.OpRem, 9, true},
}

// answer is what a call answers.
type answer struct {
	nodes []api.Node
	at    int
	err   api.Errno
}

// waiting is an operator that waits for its last part, or a ( or ? or : that is open.
type waiting struct {
	sign  string
	op    int
	parts int
	level int
}

// reader is a text that is being read: at is the place of the token that was read last, to the place behind, own what it is at fault with where a part may begin with it.
type reader struct {
	s       string
	pattern bool
	at, to  int
	err     api.Errno
	own     api.Errno
	ops     []waiting
	trees   []tree
}

// second answers what Parse, or Pattern, must answer.
func second(s string, pattern bool) answer {
	if len(s) > 4096 {
		return answer{err: api.ErrLong}
	}
	for i := 0; i < len(s); {
		r, size := utf8.DecodeRuneInString(s[i:])
		if r == utf8.RuneError && size == 1 {
			return answer{at: i, err: api.ErrUtf8}
		}
		i += size
	}
	r := reader{s: s, pattern: pattern}
	for operand := true; r.err == api.OK; {
		kind, text := r.token(false)
		switch {
		case r.err != api.OK:
		case operand:
			operand = r.operand(kind, text)
		case kind == "end":
			r.unwind(0, false)
			if len(r.ops) > 0 {
				r.err = api.ErrText
				break
			}
			return r.limits(r.trees[0].nodes())
		default:
			operand = r.operator(kind)
		}
	}
	return answer{at: r.at, err: r.err}
}

func (r *reader) limits(l []api.Node) answer {
	most := 64
	names := map[string]bool{}
	if r.pattern {
		most = 16
	}
	for _, n := range l {
		if n.Op == api.OpHole {
			names[n.Name] = true
		}
	}
	if len(l) > most || len(names) > 6 {
		return answer{at: len(r.s), err: api.ErrLarge}
	}
	return answer{nodes: l}
}

// run is how many bytes of s, from its beginning on, are characters of a set.
func run(s, set string) int {
	return len(s) - len(strings.TrimLeft(s, set))
}

// token reads the next one: what it is (a sign, "name", "number", "end"), and its text. tied: it stands behind a - that makes a literal with it.
func (r *reader) token(tied bool) (kind, text string) {
	r.to += run(r.s[r.to:], blanks)
	r.at = r.to
	r.own = api.OK
	rest := r.s[r.at:]
	for _, x := range spellings {
		if strings.HasPrefix(rest, x.written) && (x.sign != "@" || r.pattern) {
			r.to += len(x.written)
			return x.sign, x.written
		}
	}
	for script := range 3 {
		ten := string([]rune(scripts)[10*script : 10*script+10])
		if n := run(rest, ten); n > 0 {
			r.to += n
			r.large(rest[:n], tied)
			return "number", rest[:n]
		}
	}
	if run(rest, letters) > 0 {
		n := run(rest, letters+scripts+indices)
		if utf8.RuneCountInString(rest[:n]) > 16 {
			r.own = api.ErrName
		}
		r.to += n
		return "name", rest[:n]
	}
	if rest != "" {
		r.err = api.ErrRune
	}
	return "end", ""
}

// value is the number that digits write.
func value(digits string) *big.Int {
	n := new(big.Int)
	for _, d := range digits {
		place := strings.IndexRune(scripts, d)
		k := utf8.RuneCountInString(scripts[:place]) % 10
		n.Add(n.Mul(n, big.NewInt(10)), big.NewInt(int64(k)))
	}
	return n
}

func (r *reader) large(digits string, tied bool) {
	most := new(big.Int).Lsh(big.NewInt(1), 63)
	if !tied {
		most.Sub(most, big.NewInt(1))
	}
	if value(digits).Cmp(most) > 0 {
		r.own = api.ErrLarge
	}
}

// operand takes a token where a part must begin; it tells whether one must begin behind it.
func (r *reader) operand(kind, text string) bool {
	switch kind {
	case "number":
		r.fail(r.own)
		r.trees = append(r.trees, lit(value(text).Int64()))
		return false
	case "name":
		r.fail(r.own)
		r.trees = append(r.trees, vari(text))
		return false
	case "@":
		if kind, text = r.token(false); kind != "name" {
			r.fail(api.ErrText)
		}
		r.fail(r.own)
		r.trees = append(r.trees, hole(text))
		return false
	case "(":
		if r.open() == 100 {
			r.fail(api.ErrLarge)
		}
		r.ops = append(r.ops, waiting{sign: "("})
		return true
	case "-":
		if run(r.s[r.to:], scripts) > 0 {
			_, text = r.token(true)
			r.fail(r.own)
			n := value(text)
			r.trees = append(r.trees, lit(n.Neg(n).Int64()))
			return false
		}
		r.ops = append(r.ops, waiting{"-", api.OpNeg, 1, 10})
		return true
	case "~":
		r.ops = append(r.ops, waiting{"~", api.OpNot, 1, 10})
		return true
	}
	r.fail(api.ErrText)
	return true
}

// fail keeps the first fault.
func (r *reader) fail(e api.Errno) {
	if r.err == api.OK {
		r.err = e
	}
}

func (r *reader) open() int {
	n := 0
	for _, w := range r.ops {
		if w.sign == "(" {
			n++
		}
	}
	return n
}

// operator takes a token behind a part; it tells whether a part must begin behind it.
func (r *reader) operator(kind string) bool {
	if b, ok := binaries[kind]; ok {
		r.unwind(b.level, b.list)
		if r.top().level == b.level {
			r.fail(api.ErrText)
		}
		r.ops = append(r.ops, waiting{kind, b.op, 2, b.level})
		return true
	}
	switch kind {
	case "?":
		r.unwind(2, true)
		r.ops = append(r.ops, waiting{sign: "?"})
		return true
	case ":":
		r.unwind(0, false)
		if r.top().sign != "?" {
			r.fail(api.ErrText)
			return true
		}
		r.ops[len(r.ops)-1] = waiting{":", api.OpIf, 3, 1}
		return true
	case ")":
		r.unwind(0, false)
		if r.top().sign != "(" {
			r.fail(api.ErrText)
			return true
		}
		r.ops = r.ops[:len(r.ops)-1]
		return false
	}
	r.fail(api.ErrText)
	return true
}

func (r *reader) top() waiting {
	if len(r.ops) == 0 {
		return waiting{}
	}
	return r.ops[len(r.ops)-1]
}

// unwind finishes the operators above a level (and of the level, if it makes lists), down to the last ( or ? that is open.
func (r *reader) unwind(level int, list bool) {
	for w := r.top(); w.parts > 0 && (w.level > level || list && w.level == level); w = r.top() {
		r.ops = r.ops[:len(r.ops)-1]
		k := len(r.trees) - w.parts
		whole := do(w.op, append([]tree(nil), r.trees[k:]...)...)
		r.trees = append(r.trees[:k], whole)
	}
}
