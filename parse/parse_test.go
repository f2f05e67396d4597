package parse_test

import (
	"fmt"
	"math"
	"math/rand"
	"slices"
	"strings"
	"testing"

	"sorrel/api"
	"sorrel/expr"
	"sorrel/parse"
	"sorrel/runes"
)

// text tells two lists apart, node by node; an empty list of kids is the same as none.
func text(l []api.Node) string {
	var s strings.Builder
	for _, n := range l {
		fmt.Fprintf(&s, "%d %d %q %v; ", n.Op, n.N, n.Name, n.Kids)
	}
	return s.String()
}

// call is Parse or Pattern.
type call struct {
	name    string
	f       func(string) ([]api.Node, int, api.Errno)
	pattern bool
}

func calls() []call {
	return []call{{"Parse", parse.Parse, false}, {"Pattern", parse.Pattern, true}}
}

// reads holds what a call reads against a tree.
func (c call) reads(t *testing.T, s string, want tree) {
	t.Helper()
	if l, at, e := c.f(s); text(l) != text(want.nodes()) || at != 0 || e != api.OK {
		t.Errorf("%s(%.80q) = %s, %d, %d, want %s", c.name, s, text(l), at, e, text(want.nodes()))
	}
}

// refuses holds what a call refuses against a place and an error.
func (c call) refuses(t *testing.T, s string, place int, err api.Errno) {
	t.Helper()
	if l, at, e := c.f(s); len(l) != 0 || at != place || e != err {
		t.Errorf("%s(%.80q) = %s, %d, %d, want %d, %d", c.name, s, text(l), at, e, place, err)
	}
}

func reads(t *testing.T, s string, want tree) {
	t.Helper()
	for _, c := range calls() {
		c.reads(t, s, want)
	}
}

func refuses(t *testing.T, s string, place int, err api.Errno) {
	t.Helper()
	for _, c := range calls() {
		c.refuses(t, s, place, err)
	}
}

// same holds both calls against the second reckoning.
func same(t *testing.T, s string) {
	t.Helper()
	for _, c := range calls() {
		want := second(s, c.pattern)
		if l, at, e := c.f(s); text(l) != text(want.nodes) || at != want.at || e != want.err {
			t.Fatalf("%s(%q) = %s, %d, %d, want %s, %d, %d", c.name, s, text(l), at, e, text(want.nodes), want.at, want.err)
		}
	}
}

var (
	a, b, c = vari("a"), vari("b"), vari("c")
	d       = vari("d")
)

// between is a sign between two parts: what it stands for, its level in the grammar, and whether only one may stand there.
type between struct {
	sign      string
	op, level int
	once      bool
}

// operators has all of them, from the loosest level to the tightest.
var operators = []between{
	{"|", api.OpOr, 1, false},
	{"^", api.OpXor, 2, false},
	{"&", api.OpAnd, 3, false},
	{"==", api.OpEq, 4, true},
	{"<", api.OpLt, 5, true},
	{"<<", api.OpShl, 6, false},
	{">>", api.OpShr, 6, false},
	{"+", api.OpAdd, 7, false},
	{"-", api.OpSub, 7, false},
	{"*", api.OpMul, 8, false},
	{"/", api.OpDiv, 8, false},
	{"%", api.OpRem, 8, false},
}

// P4.1

func TestLeaves(t *testing.T) {
	for _, name := range []string{"a", "Z", "_", "__", "a1", "a₂", "x٣４", "größe3", "é", "名", "Ωμέγα", "Жук", "\U00010400", "if", "neg", "e", "x0", "_₀"} {
		reads(t, name, vari(name))
	}
	for s, n := range map[string]int64{"0": 0, "7": 7, "007": 7, "00": 0, "٤٢": 42, "４２": 42, "٠": 0, "０００": 0} {
		reads(t, s, lit(n))
	}
}

func TestOperators(t *testing.T) {
	for _, o := range operators {
		want := do(o.op, a, b)
		for _, x := range spellings {
			if x.sign != o.sign {
				continue
			}
			for _, s := range []string{"a" + x.written + "b", "a " + x.written + "\tb", " a\n" + x.written + "\r b\u3000", "(a" + x.written + "b)"} {
				reads(t, s, want)
			}
			if o.op != api.OpSub {
				refuses(t, x.written+"b", 0, api.ErrText)
				refuses(t, "("+x.written+"b)", 1, api.ErrText)
			}
			refuses(t, "a"+x.written, 1+len(x.written), api.ErrText)
			refuses(t, "(a"+x.written+")", 2+len(x.written), api.ErrText)
		}
	}
	reads(t, "~a", do(api.OpNot, a))
	reads(t, "\u00aca", do(api.OpNot, a))
	reads(t, "-a", do(api.OpNeg, a))
	reads(t, "\u2212a", do(api.OpNeg, a))
	reads(t, "a?b:c", do(api.OpIf, a, b, c))
}

// TestGrouping holds each two operators beside each other against the levels.
func TestGrouping(t *testing.T) {
	for _, o := range operators {
		for _, p := range operators {
			s := "a" + o.sign + "b" + p.sign + "c"
			switch {
			case o.level < p.level:
				reads(t, s, do(o.op, a, do(p.op, b, c)))
			case o.level == p.level && o.once:
				refuses(t, s, 2+len(o.sign), api.ErrText)
			default:
				reads(t, s, do(p.op, do(o.op, a, b), c))
			}
			reads(t, "a"+o.sign+"(b"+p.sign+"c)", do(o.op, a, do(p.op, b, c)))
			reads(t, "(a"+o.sign+"b)"+p.sign+"c", do(p.op, do(o.op, a, b), c))
		}
		s := "a" + o.sign + "b"
		whole := do(o.op, a, b)
		reads(t, s+"?c:d", do(api.OpIf, whole, c, d))
		reads(t, "c?"+s+":d", do(api.OpIf, c, whole, d))
		reads(t, "c?d:"+s, do(api.OpIf, c, d, whole))
		reads(t, "c"+o.sign+"(a?b:d)", do(o.op, c, do(api.OpIf, a, b, d)))
		for sign, op := range map[string]int{"- ": api.OpNeg, "~": api.OpNot} {
			reads(t, sign+s, do(o.op, do(op, a), b))
			reads(t, "a"+o.sign+sign+"b", do(o.op, a, do(op, b)))
			reads(t, sign+"("+s+")", do(op, whole))
		}
	}
}

func TestLists(t *testing.T) {
	e := vari("e")
	for _, o := range operators {
		if o.once {
			continue
		}
		left := do(o.op, do(o.op, do(o.op, a, b), c), d)
		reads(t, strings.Join([]string{"a", "b", "c", "d"}, o.sign), left)
		reads(t, strings.Join([]string{"a", "b", "c", "d", "e"}, o.sign), do(o.op, left, e))
	}
	reads(t, "a<<b>>c<<d", do(api.OpShl, do(api.OpShr, do(api.OpShl, a, b), c), d))
	reads(t, "a-b+c-d", do(api.OpSub, do(api.OpAdd, do(api.OpSub, a, b), c), d))
	reads(t, "a/b*c%d", do(api.OpRem, do(api.OpMul, do(api.OpDiv, a, b), c), d))
	levels := do(api.OpOr, a, do(api.OpXor, b, do(api.OpAnd, c, do(api.OpEq, d, do(api.OpLt, e, do(api.OpShl, a, do(api.OpAdd, b, do(api.OpMul, c, do(api.OpNot, d)))))))))
	calls()[0].reads(t, "a|b^c&d==e<a<<b+c*~d", levels)
	reads(t, "a<b==c<d", do(api.OpEq, do(api.OpLt, a, b), do(api.OpLt, c, d)))
	reads(t, "a<b&c<d", do(api.OpAnd, do(api.OpLt, a, b), do(api.OpLt, c, d)))
	reads(t, "a==b|c==d", do(api.OpOr, do(api.OpEq, a, b), do(api.OpEq, c, d)))
	refuses(t, "a<b+c<d", 5, api.ErrText)
	refuses(t, "a==b<c==d", 6, api.ErrText)
	refuses(t, "(a<b<c)", 4, api.ErrText)
}

func TestIf(t *testing.T) {
	e := vari("e")
	cond := func(c, a, b tree) tree { return do(api.OpIf, c, a, b) }
	reads(t, "a?b:c?d:e", cond(a, b, cond(c, d, e)))
	reads(t, "a?b?c:d:e", cond(a, cond(b, c, d), e))
	reads(t, "(a?b:c)?d:e", cond(cond(a, b, c), d, e))
	reads(t, " a ? b : ( c ? d : e ) ", cond(a, b, cond(c, d, e)))
	reads(t, "a?b?c:d:e?a:b", cond(a, cond(b, c, d), cond(e, a, b)))
	reads(t, "a|b?c|d:e|a", cond(do(api.OpOr, a, b), do(api.OpOr, c, d), do(api.OpOr, e, a)))
	for s, at := range map[string]int{"a?": 2, "a?b": 3, "a?b:": 4, "a?:b": 2, "a:b": 1, "a?b:c:d": 5, "?a:b": 0, "a?(b:c)": 4, "(a?b):c": 4, "a??b:c": 2, "a?b::c": 4, ":": 0, "a?b)": 3, "a?b:c)": 5} {
		refuses(t, s, at, api.ErrText)
	}
}

func TestLiteralsBelowZero(t *testing.T) {
	neg := func(x tree) tree { return do(api.OpNeg, x) }
	not := func(x tree) tree { return do(api.OpNot, x) }
	five, below := lit(5), lit(-5)
	for s, want := range map[string]tree{
		"-5": below, "\u22125": below, "-٥": below, "\u2212５": below, "-005": below, " -5 ": below, "(-5)": below, "-0": lit(0), "-1": lit(-1),
		"- 5": neg(five), "\u2212 5": neg(five), "-\t5": neg(five), "-\u30005": neg(five), "-(5)": neg(five), "-(-5)": neg(below), "(-(5))": neg(five),
		"--5": neg(below), "---5": neg(neg(below)), "- -5": neg(below), "-- 5": neg(neg(five)), "-\u22125": neg(below), "~-5": not(below), "-~5": neg(not(five)), "~5": not(five), "~- 5": not(neg(five)), "-a": neg(a), "--a": neg(neg(a)),
		"a-5": do(api.OpSub, a, five), "a -5": do(api.OpSub, a, five), "a - 5": do(api.OpSub, a, five), "a\u22125": do(api.OpSub, a, five), "a--5": do(api.OpSub, a, below), "a - -5": do(api.OpSub, a, below), "a- - 5": do(api.OpSub, a, neg(five)), "5-5": do(api.OpSub, five, five), "-5-5": do(api.OpSub, below, five), "(a)-5": do(api.OpSub, a, five),
		"a+-5": do(api.OpAdd, a, below), "a*-5": do(api.OpMul, a, below), "-5*a": do(api.OpMul, below, a), "a<-5": do(api.OpLt, a, below), "a<<-5": do(api.OpShl, a, below), "a==-5": do(api.OpEq, a, below), "a?-5:-5": do(api.OpIf, a, below, below), "-5?a:b": do(api.OpIf, below, a, b),
	} {
		reads(t, s, want)
	}
	refuses(t, "-", 1, api.ErrText)
	refuses(t, "--", 2, api.ErrText)
	refuses(t, "-5 5", 3, api.ErrText)
	refuses(t, "-1٢", 2, api.ErrText)
	refuses(t, "-5a", 2, api.ErrText)
	refuses(t, "-+5", 1, api.ErrText)
	refuses(t, "-)", 1, api.ErrText)
}

// script writes decimal digits in another script's ten, whose first is zero.
func script(digits string, zero rune) string {
	return strings.Map(func(r rune) rune { return r - '0' + zero }, digits)
}

func TestNumbersAtTheirEnds(t *testing.T) {
	for _, zero := range []rune{'0', 0x660, 0xff10} {
		write := func(s string) string { return script(s, zero) }
		greatest, beyond, further := write("9223372036854775807"), write("9223372036854775808"), write("9223372036854775809")
		reads(t, greatest, lit(math.MaxInt64))
		reads(t, write("000000000000000000000000")+greatest, lit(math.MaxInt64))
		reads(t, "-"+greatest, lit(-math.MaxInt64))
		reads(t, "-"+beyond, lit(math.MinInt64))
		reads(t, "\u2212"+beyond, lit(math.MinInt64))
		reads(t, "--"+beyond, do(api.OpNeg, lit(math.MinInt64)))
		reads(t, "~-"+beyond, do(api.OpNot, lit(math.MinInt64)))
		reads(t, "a- -"+beyond, do(api.OpSub, a, lit(math.MinInt64)))
		reads(t, "a-"+greatest, do(api.OpSub, a, lit(math.MaxInt64)))
		refuses(t, beyond, 0, api.ErrLarge)
		refuses(t, " "+beyond+" ", 1, api.ErrLarge)
		refuses(t, "- "+beyond, 2, api.ErrLarge)
		refuses(t, "-("+beyond+")", 2, api.ErrLarge)
		refuses(t, "~"+beyond, 1, api.ErrLarge)
		refuses(t, "a-"+beyond, 2, api.ErrLarge)
		refuses(t, "a -"+beyond, 3, api.ErrLarge)
		refuses(t, "5-"+beyond, 2, api.ErrLarge)
		refuses(t, "-5-"+beyond, 3, api.ErrLarge)
		refuses(t, "-"+further, 1, api.ErrLarge)
		refuses(t, "\u2212"+further, 3, api.ErrLarge)
		refuses(t, "a--"+further, 3, api.ErrLarge)
		for _, s := range []string{"18446744073709551615", "18446744073709551616", "27670116110564327424", strings.Repeat("9", 300)} {
			refuses(t, write(s), 0, api.ErrLarge)
			refuses(t, "-"+write(s), 1, api.ErrLarge)
			refuses(t, "a+b*"+write(s), 4, api.ErrLarge)
		}
	}
	for _, s := range []string{"1٢", "1２", "1 2"} {
		refuses(t, s, strings.IndexFunc(s[1:], func(r rune) bool { return r != ' ' })+1, api.ErrText)
	}
	refuses(t, "٢1", 2, api.ErrText)
	refuses(t, "２٢", 3, api.ErrText)
}

func TestNames(t *testing.T) {
	for _, one := range []string{"a", "é", "名", "\U00010400"} {
		long, longer := strings.Repeat(one, 16), strings.Repeat(one, 17)
		reads(t, long, vari(long))
		reads(t, "-"+long, do(api.OpNeg, vari(long)))
		refuses(t, longer, 0, api.ErrName)
		refuses(t, "  "+longer+"+1", 2, api.ErrName)
		refuses(t, "a*("+longer, 3, api.ErrName)
		reads(t, long[:len(long)-len(one)]+"₂", vari(long[:len(long)-len(one)]+"₂"))
		refuses(t, long+"₂", 0, api.ErrName)
		refuses(t, long+"7", 0, api.ErrName)
		refuses(t, strings.Repeat(one, 1000), 0, api.ErrName)
	}
	refuses(t, "5a", 1, api.ErrText)
	refuses(t, "5₂", 1, api.ErrRune)
	refuses(t, "₂", 0, api.ErrRune)
	refuses(t, "a ₂", 2, api.ErrRune)
}

func TestBlanks(t *testing.T) {
	want := do(api.OpIf, do(api.OpShl, a, do(api.OpNot, b)), c, lit(7))
	tokens := []string{"a", "<<", "~", "b", "?", "(", "c", ")", ":", "7"}
	for _, r := range blanks {
		one := string(r)
		for _, gap := range []string{one, one + one, one + " " + one} {
			reads(t, gap+strings.Join(tokens, gap)+gap, want)
		}
	}
	reads(t, strings.Join(tokens, ""), want)
	for _, s := range []string{"", " ", blanks, strings.Repeat(" ", 4096)} {
		refuses(t, s, len(s), api.ErrText)
	}
	for _, r := range []rune{0, 0x0b, 0x0c, 0x85, 0x1680, 0x2003, 0x2028, 0x202f, 0x205f, 0x200b, 0xfeff, 0x3001} {
		refuses(t, "a"+string(r)+"+b", 1, api.ErrRune)
	}
	refuses(t, "a < < b", 4, api.ErrText)
	refuses(t, "a> >b", 1, api.ErrRune)
	refuses(t, "a= =b", 1, api.ErrRune)
}

func TestBrackets(t *testing.T) {
	deep := func(n int, s string) string { return strings.Repeat("(", n) + s + strings.Repeat(")", n) }
	for _, n := range []int{1, 2, 99, 100} {
		reads(t, deep(n, "a"), a)
		reads(t, deep(n, "a+b"), do(api.OpAdd, a, b))
		refuses(t, deep(n, "a")+")", 2*n+1, api.ErrText)
		refuses(t, deep(n, "a")[:2*n], 2*n, api.ErrText)
		refuses(t, deep(n, ""), n, api.ErrText)
	}
	refuses(t, deep(101, "a"), 100, api.ErrLarge)
	refuses(t, deep(1000, "a"), 100, api.ErrLarge)
	refuses(t, strings.Repeat(" (", 101), 201, api.ErrLarge)
	refuses(t, strings.Repeat("-(", 101), 201, api.ErrLarge)
	refuses(t, strings.Repeat("(", 101)+"$", 100, api.ErrLarge)
	refuses(t, strings.Repeat("(", 100), 100, api.ErrText)
	reads(t, deep(99, deep(1, "a")+"+"+deep(1, "b")), do(api.OpAdd, a, b))
	reads(t, deep(100, "a")+"+"+deep(100, "b"), do(api.OpAdd, a, b))
	reads(t, deep(50, deep(50, "a")+"+"+deep(50, "b")), do(api.OpAdd, a, b))
	refuses(t, deep(50, deep(50, "a")+"+"+deep(51, "b")), 50+101+1+50, api.ErrLarge)
	// The grammar does not take a ( behind a part, so this one would not be open.
	refuses(t, strings.Repeat("(", 100)+"a(", 101, api.ErrText)
	refuses(t, "a(b)", 1, api.ErrText)
	refuses(t, "(a)(b)", 3, api.ErrText)
	refuses(t, "5(a)", 1, api.ErrText)
	refuses(t, "()", 1, api.ErrText)
	refuses(t, ")", 0, api.ErrText)
	refuses(t, "(", 1, api.ErrText)
}

// minus is a text of an expression of so many nodes.
func minus(size int) string { return strings.Repeat("-", size-1) + "a" }

func TestSize(t *testing.T) {
	p := calls()[0]
	want := a
	for range 63 {
		want = do(api.OpNeg, want)
	}
	p.reads(t, minus(64), want)
	p.refuses(t, minus(65), 65, api.ErrLarge)
	p.refuses(t, minus(65)+" \t", 67, api.ErrLarge)
	p.refuses(t, minus(4096), 4096, api.ErrLarge)
	sum := lit(0)
	for range 31 {
		sum = do(api.OpAdd, sum, a)
	}
	p.reads(t, "0"+strings.Repeat("+a", 31), sum)
	p.reads(t, "-(0"+strings.Repeat("+a", 31)+")", do(api.OpNeg, sum))
	p.refuses(t, "0"+strings.Repeat("+a", 32), 65, api.ErrLarge)
	p.refuses(t, "0"+strings.Repeat("+a", 2047), 4095, api.ErrLarge)
	chain := a
	for range 21 {
		chain = do(api.OpIf, b, c, chain)
	}
	p.reads(t, strings.Repeat("b?c:", 21)+"a", chain)
	p.refuses(t, strings.Repeat("b?c:", 21)+"-a", 86, api.ErrLarge)
	p.refuses(t, strings.Repeat("b?c:", 1000)+"a", 4001, api.ErrLarge)
	p.refuses(t, strings.Repeat("b?", 1000)+"c"+strings.Repeat(":a", 1000), 4001, api.ErrLarge)
	// Only a whole text is too large: a fault inside it counts ahead of that.
	p.refuses(t, minus(65)+"+", 66, api.ErrText)
	p.refuses(t, minus(65)+"+$", 66, api.ErrRune)
	p.refuses(t, minus(4000)+" b", 4001, api.ErrText)
	p.refuses(t, "("+minus(65), 66, api.ErrText)
	p.refuses(t, minus(65)+"+abcdefghijklmnopq", 66, api.ErrName)
	p.refuses(t, minus(65)+"+9223372036854775808", 66, api.ErrLarge)
}

func TestLong(t *testing.T) {
	pad := func(s string, n int) string { return s + strings.Repeat(" ", n-len(s)) }
	reads(t, pad("a", 4095), a)
	reads(t, pad("a", 4096), a)
	reads(t, strings.Repeat("\u3000", 1365)+"a", a)
	refuses(t, strings.Repeat("\u3000", 1365)+"ab", 0, api.ErrLong)
	refuses(t, pad("a", 4097), 0, api.ErrLong)
	refuses(t, pad("", 4097), 0, api.ErrLong)
	refuses(t, pad("$", 4097), 0, api.ErrLong)
	refuses(t, pad("a\xff", 4097), 0, api.ErrLong)
	refuses(t, strings.Repeat("\xff", 5000), 0, api.ErrLong)
	refuses(t, strings.Repeat("(", 1<<20), 0, api.ErrLong)
	refuses(t, pad("", 4095)+"$", 4095, api.ErrRune)
	refuses(t, pad("", 4095)+"\xff", 4095, api.ErrUtf8)
	refuses(t, strings.Repeat("9", 4096), 0, api.ErrLarge)
	refuses(t, strings.Repeat("a", 4096), 0, api.ErrName)
	refuses(t, strings.Repeat("~", 4096), 4096, api.ErrText)
	refuses(t, strings.Repeat("a?", 2048), 4096, api.ErrText)
}

// TestFaults has each fault at the beginning, inside and at the end of a text.
func TestFaults(t *testing.T) {
	long, large := "abcdefghijklmnopq", "9223372036854775808"
	for _, f := range []struct {
		token string
		err   api.Errno
	}{
		{"$", api.ErrRune}, {";", api.ErrRune}, {",", api.ErrRune}, {"=", api.ErrRune}, {">", api.ErrRune}, {"₂", api.ErrRune}, {"\x00", api.ErrRune}, {"\ufffd", api.ErrRune}, {"\U0010ffff", api.ErrRune}, {"\u00b2", api.ErrRune}, {"!", api.ErrRune}, {"\"", api.ErrRune}, {".", api.ErrRune}, {"\u2264", api.ErrRune}, {"\u0966", api.ErrRune},
		{long, api.ErrName}, {large, api.ErrLarge},
		{")", api.ErrText}, {"+", api.ErrText}, {"?", api.ErrText}, {":", api.ErrText}, {"==", api.ErrText}, {">>", api.ErrText},
	} {
		for _, ahead := range []string{"", " ", "a+", "é * ", "(", "- ", "~\u3000", "a?", "a?b:", "1<<", "(x₂)-( "} {
			for _, behind := range []string{"", " ", " + a", ")", " $", "?b:c"} {
				refuses(t, ahead+f.token+behind, len(ahead), f.err)
			}
		}
	}
	for _, s := range []string{"a", "5", "(a)", "-a", "a+b", "a?b:c", "a<b", "٣", "é "} {
		for _, token := range []string{"b", "5 ", "(", "(b)", "~b", "\u00ac"} {
			refuses(t, s+" "+token, len(s)+1, api.ErrText)
			refuses(t, "("+s+" "+token, len(s)+2, api.ErrText)
		}
		refuses(t, s+")", len(s), api.ErrText)
		refuses(t, s+":b", len(s), api.ErrText)
		refuses(t, "("+s, len(s)+1, api.ErrText)
		refuses(t, "("+s+" ", len(s)+2, api.ErrText)
		refuses(t, s+" $", len(s)+1, api.ErrRune)
		refuses(t, s+" =b", len(s)+1, api.ErrRune)
		refuses(t, s+" >b", len(s)+1, api.ErrRune)
	}
}

// TestWhichFault: where the grammar takes no name, or no number, ErrText counts, however long or large it is; where it takes one, what this is at fault with.
func TestWhichFault(t *testing.T) {
	large := []string{"9223372036854775808", "18446744073709551616", strings.Repeat("9", 300), script("9223372036854775808", 0x660), script("99999999999999999999", 0xff10)}
	long := []string{"abcdefghijklmnopq", strings.Repeat("é", 17), strings.Repeat("名", 100), "abcdefghijklmnop₂"}
	p := calls()[1]
	for _, behind := range []string{"", " ", ")", "+b", " $", ":c", "(", "?a:b", " 9223372036854775808", "\u3000abcdefghijklmnopq"} {
		for _, token := range slices.Concat(large, long) {
			for _, ahead := range []string{"a ", "5 ", "(a)", "(a ", "((a) ", "-a ", "-5 ", "- 5\t", "~a\u3000", "a+b ", "a?b ", "a?b:c ", "a?(b)", "(a?b:c)", "a<b ", "a==b ", "a<<b ", strings.Repeat("(", 100) + "a "} {
				refuses(t, ahead+token+behind, len(ahead), api.ErrText)
			}
			for _, ahead := range []string{"@a ", "(@a)", "-@a\t", "a+@b ", "@a?@b\u3000"} {
				p.refuses(t, ahead+token+behind, len(ahead), api.ErrText)
			}
		}
		for _, token := range large {
			refuses(t, "a+"+token+behind, 2, api.ErrLarge)
			for _, ahead := range []string{"@", "@ ", "a+@", "(@\u3000"} {
				p.refuses(t, ahead+token+behind, len(ahead), api.ErrText)
			}
		}
		for _, token := range long {
			refuses(t, "a+"+token+behind, 2, api.ErrName)
			refuses(t, "5"+token+behind, 1, api.ErrText)
			for _, ahead := range []string{"@", "@ ", "a+@", "(@\u3000"} {
				p.refuses(t, ahead+token+behind, len(ahead), api.ErrName)
			}
		}
	}
	refuses(t, "1"+large[3], 1, api.ErrText)
	refuses(t, "-1"+large[4], 2, api.ErrText)
	refuses(t, "a $", 2, api.ErrRune)
	refuses(t, "a ₂", 2, api.ErrRune)
	p.refuses(t, "@ $", 2, api.ErrRune)
}

func TestSignsThatAreNone(t *testing.T) {
	for s, at := range map[string]int{
		"a=b": 1, "a===b": 3, "a>b": 1, "a>>>b": 3, "a>=b": 1, "a=>b": 1, "a<>b": 2, "a<=b": 2, "a==>b": 3, "a\u2261=b": 4, "a=": 1, "a>": 1, ">>>": 0, "a>\u226b": 1, "!a": 0, "a!=b": 1, "a,b": 1, "a;b": 1, "a;": 1, ";": 0, ",": 0, "(a,b)": 2, "a\u2265b": 1, "a\u2215b": 1,
	} {
		err := api.ErrRune
		if s == ">>>" {
			err = api.ErrText
		}
		refuses(t, s, at, err)
	}
	for s, at := range map[string]int{"a<<<b": 3, "a<\u226ab": 2, "a====b": 3, "a==\u2261b": 3, "a>>>>b": 3, "a<<>>b": 3, "a++b": 2, "a**b": 2, "a&&b": 2, "a||b": 2, "a//b": 2, "a^^b": 2, "a%%b": 2} {
		refuses(t, s, at, api.ErrText)
	}
	refuses(t, "a~b", 1, api.ErrText)
}

// TestFirstFault has texts with two faults.
func TestFirstFault(t *testing.T) {
	for _, f := range []struct {
		s   string
		at  int
		err api.Errno
	}{
		{"$\xff", 1, api.ErrUtf8}, {"\xff$", 0, api.ErrUtf8}, {"a b\xff", 3, api.ErrUtf8}, {"é\xc3", 2, api.ErrUtf8}, {"\ufffd\xff", 3, api.ErrUtf8}, {"a\xff\xfe", 1, api.ErrUtf8}, {strings.Repeat("(", 200) + "\x80", 200, api.ErrUtf8}, {minus(100) + "\xed\xa0\x80", 100, api.ErrUtf8},
		{"a b $", 2, api.ErrText}, {"a $ b", 2, api.ErrRune}, {") abcdefghijklmnopq", 0, api.ErrText}, {"abcdefghijklmnopq $", 0, api.ErrName}, {"9223372036854775808 $", 0, api.ErrLarge}, {"a + + 9223372036854775808", 4, api.ErrText}, {"a?b $", 4, api.ErrRune}, {"a<b<$", 3, api.ErrText}, {"(a $", 3, api.ErrRune}, {"a) $", 1, api.ErrText},
		{"$ $", 0, api.ErrRune}, {"1٢$", 1, api.ErrText}, {"-9223372036854775809$", 1, api.ErrLarge}, {"abcdefghijklmnopq$", 0, api.ErrName}, {"99999999999999999999$", 0, api.ErrLarge},
	} {
		refuses(t, f.s, f.at, f.err)
	}
}

// TestEveryCharacter has each rune as a text of its own, between two parts, and ahead of one.
func TestEveryCharacter(t *testing.T) {
	p := calls()[0]
	for r := rune(0); r <= 0x10ffff; r++ {
		if r >= 0xd800 && r <= 0xdfff {
			continue
		}
		s := string(r)
		switch runes.Kind(r) {
		case 1:
			p.reads(t, s, vari(s))
		case 2:
			p.reads(t, s, lit(int64(r&15)))
		case 3:
			p.refuses(t, s, len(s), api.ErrText)
		case 4:
			same(t, s)
			same(t, "a"+s+"b")
			same(t, s+"5")
		default:
			p.refuses(t, s, 0, api.ErrRune)
			p.refuses(t, "a "+s+"b", 2, api.ErrRune)
		}
	}
}

// TestBytes has every text of one and of two bytes, and each byte behind and ahead of others.
func TestBytes(t *testing.T) {
	for i := range 256 {
		x := string([]byte{byte(i)})
		for _, s := range []string{x, "a" + x, x + "a", "-" + x, "a+" + x, "(" + x, "\u2261" + x, "\xe2" + x, "\xe2\x88" + x, "\xf0\x90\x90" + x} {
			if runes.Name(s) {
				reads(t, s, vari(s))
				continue
			}
			same(t, s)
		}
		for j := range 128 {
			if i < 128 {
				same(t, x+string(rune(j)))
			}
		}
	}
}

// texts has every row of up to so many of the tokens.
func texts(tokens []string, most int, f func(string)) {
	f("")
	if most == 0 {
		return
	}
	for _, x := range tokens {
		texts(tokens, most-1, func(s string) { f(x + s) })
	}
}

// TestEveryShortText holds every row of a few tokens against the second reckoning.
func TestEveryShortText(t *testing.T) {
	for _, x := range []struct {
		most   int
		tokens string
	}{
		{4, "a,5,-,~,(,),?,:,<,==,|,+,*, ,@,$"},
		{5, "a,5,9223372036854775808, abcdefghijklmnopq,-,(,),@, "},
		{7, "a,(,),?,:"},
		{7, "a,<,==,&,-"},
		{6, "a,5,-,(,),@"},
		{6, "5, ,-,\u2212,+,a"},
		{5, "a,=,<,>,==,\u226a,\u2261"},
		{5, "a,<<,^,&,|,%,==,<"},
		{5, "@,a, ,1,+,("},
	} {
		texts(strings.Split(x.tokens, ","), x.most, func(s string) { same(t, s) })
	}
}

// TestRandomTexts does so with longer rows, most of them right for a good way.
func TestRandomTexts(t *testing.T) {
	r := rand.New(rand.NewSource(4))
	parts := []string{"a", "é", "x₂", "5", "٣", "０", "(a)", "@b", "@ c", "-7", "9223372036854775807", "-9223372036854775808", "9223372036854775808", "abcdefghijklmnop", "abcdefghijklmnopq", "(", "((", "-", "~", "- ", "\u2212", "\u00ac", "$", "@", ")"}
	joints := []string{"+", "-", " - ", "*", "\u00d7", "\u00b7", "/", "\u00f7", "%", "&", "\u2227", "|", "\u2228", "^", "\u2295", "<<", "\u226a", ">>", "\u226b", "==", "\u2261", "<", "?", ":", ")", "))", " ", "=", ">", ";", "\t"}
	for range 60000 {
		s := ""
		for range 1 + r.Intn(12) {
			for s += parts[r.Intn(len(parts))]; r.Intn(6) == 0; {
				s += parts[r.Intn(len(parts))]
			}
			for s += joints[r.Intn(len(joints))]; r.Intn(6) == 0; {
				s += joints[r.Intn(len(joints))]
			}
		}
		same(t, s+parts[r.Intn(len(parts))])
	}
}

// written is a text of a tree, with brackets where they must be and by chance elsewhere, with any spelling and any blanks.
func written(r *rand.Rand, x tree) string {
	gap := func() string {
		return strings.Repeat(string([]rune(blanks)[r.Intn(6)]), max(0, r.Intn(6)-3))
	}
	sign := func(s string) string {
		var all []string
		for _, x := range spellings {
			if x.sign == s {
				all = append(all, x.written)
			}
		}
		return gap() + all[r.Intn(len(all))] + gap()
	}
	part := func(x tree) string {
		s := written(r, x)
		if len(x.parts) > 0 || r.Intn(9) == 0 {
			return "(" + gap() + s + gap() + ")"
		}
		return s
	}
	switch x.op {
	case api.OpLit:
		if x.n < 0 {
			return strings.TrimSpace(sign("-")) + script(fmt.Sprint(x.n)[1:], 0x660)
		}
		return script(fmt.Sprint(x.n), 0xff10)
	case api.OpVar:
		return x.name
	case api.OpHole:
		return sign("@") + x.name
	case api.OpNeg:
		return sign("-") + "(" + written(r, x.parts[0]) + ")"
	case api.OpNot:
		return sign("~") + part(x.parts[0])
	case api.OpIf:
		return part(x.parts[0]) + sign("?") + part(x.parts[1]) + sign(":") + part(x.parts[2])
	}
	i := slices.IndexFunc(operators, func(o between) bool { return o.op == x.op })
	return part(x.parts[0]) + sign(operators[i].sign) + part(x.parts[1])
}

// random is a tree of just that size; with holes, if it is to be a pattern.
func random(r *rand.Rand, size int, pattern bool) tree {
	names := []string{"a", "b", "é", "x₂", "名", "\U00010400", "größe3"}
	numbers := []int64{0, 1, -1, 7, -90, math.MinInt64, math.MaxInt64}
	switch kind := r.Intn(3); {
	case size == 1 && kind == 0:
		return lit(numbers[r.Intn(len(numbers))])
	case size == 1 && kind == 1 && pattern:
		return hole(names[r.Intn(6)])
	case size == 1:
		return vari(names[r.Intn(len(names))])
	case size == 2 || kind == 0:
		return do(api.OpNeg+r.Intn(2), random(r, size-1, pattern))
	case size == 3 || kind == 1:
		k := 1 + r.Intn(size-2)
		return do(api.OpAdd+r.Intn(12), random(r, k, pattern), random(r, size-1-k, pattern))
	}
	k := 1 + r.Intn(size-3)
	l := 1 + r.Intn(size-2-k)
	return do(api.OpIf, random(r, k, pattern), random(r, l, pattern), random(r, size-1-k-l, pattern))
}

func TestWrittenTrees(t *testing.T) {
	r := rand.New(rand.NewSource(44))
	for range 4000 {
		for _, c := range calls() {
			most := 64
			if c.pattern {
				most = 16
			}
			x := random(r, 1+r.Intn(most), c.pattern)
			c.reads(t, written(r, x), x)
		}
		x := random(r, 1+r.Intn(64), false)
		if l, _, _ := parse.Parse(written(r, x)); expr.Check(l) != api.OK {
			t.Errorf("what is read is not sound: %s", text(l))
		}
	}
}

// P4.2

func TestHoles(t *testing.T) {
	p := calls()[1]
	for s, want := range map[string]tree{
		"@a": hole("a"), "@ a": hole("a"), " @\t\u3000a ": hole("a"), "(@a)": hole("a"), "@x₂": hole("x₂"), "@größe3": hole("größe3"), "@名": hole("名"),
		"-@a": do(api.OpNeg, hole("a")), "~@a": do(api.OpNot, hole("a")), "@a + 0": do(api.OpAdd, hole("a"), lit(0)), "@a*@b": do(api.OpMul, hole("a"), hole("b")), "@a - -5": do(api.OpSub, hole("a"), lit(-5)), "@a-5": do(api.OpSub, hole("a"), lit(5)),
		"@a+a": do(api.OpAdd, hole("a"), a), "a+@a": do(api.OpAdd, a, hole("a")), "@a==@a": do(api.OpEq, hole("a"), hole("a")),
		"@c?@a:@b":  do(api.OpIf, hole("c"), hole("a"), hole("b")),
		"@a-@b-@c":  do(api.OpSub, do(api.OpSub, hole("a"), hole("b")), hole("c")),
		"@a<<@b<@c": do(api.OpLt, do(api.OpShl, hole("a"), hole("b")), hole("c")),
	} {
		p.reads(t, s, want)
	}
	long := strings.Repeat("é", 16)
	p.reads(t, "@"+long, hole(long))
	p.refuses(t, "@"+long+"é", 1, api.ErrName)
	p.refuses(t, "@ "+long+"é", 2, api.ErrName)
}

func TestHolesWithoutNames(t *testing.T) {
	p := calls()[1]
	for _, f := range []struct {
		s   string
		at  int
		err api.Errno
	}{
		{"@", 1, api.ErrText}, {"@ ", 2, api.ErrText}, {"@1", 1, api.ErrText}, {"@ 1", 2, api.ErrText}, {"@@a", 1, api.ErrText}, {"@(a)", 1, api.ErrText}, {"@-a", 1, api.ErrText}, {"@+", 1, api.ErrText}, {"@)", 1, api.ErrText}, {"a+@", 3, api.ErrText},
		{"@$", 1, api.ErrRune}, {"@₂", 1, api.ErrRune}, {"@=", 1, api.ErrRune}, {"@9223372036854775808", 1, api.ErrText}, {"@\xff", 1, api.ErrUtf8}, {"$@\xff", 2, api.ErrUtf8},
		{"a@b", 1, api.ErrText}, {"a @b", 2, api.ErrText}, {"@a@b", 2, api.ErrText}, {"@a b", 3, api.ErrText}, {"5@a", 1, api.ErrText}, {"(@a)@b", 4, api.ErrText}, {"@a(", 2, api.ErrText}, {"@a)", 2, api.ErrText}, {"(@a", 3, api.ErrText},
	} {
		p.refuses(t, f.s, f.at, f.err)
	}
}

// TestNoHolesInExpressions: an @ is no sign there, wherever it stands.
func TestNoHolesInExpressions(t *testing.T) {
	p := calls()[0]
	for s, at := range map[string]int{"@": 0, "@a": 0, " @a": 1, "@ 1": 0, "a+@b": 2, "a@b": 1, "a @": 2, "(@a)": 1, "-@a": 1, "a?@b:c": 2, "5@": 1, "@@": 0} {
		p.refuses(t, s, at, api.ErrRune)
	}
	p.refuses(t, "a b@", 2, api.ErrText)
	p.refuses(t, "@\xff", 1, api.ErrUtf8)
}

func TestPatternSize(t *testing.T) {
	p := calls()[1]
	want := a
	for range 15 {
		want = do(api.OpNeg, want)
	}
	p.reads(t, minus(16), want)
	p.refuses(t, minus(17), 17, api.ErrLarge)
	p.refuses(t, minus(17)+"\u3000", 20, api.ErrLarge)
	p.refuses(t, minus(64), 64, api.ErrLarge)
	p.refuses(t, minus(4096), 4096, api.ErrLarge)
	p.refuses(t, minus(17)+"+", 18, api.ErrText)
	p.refuses(t, minus(17)+" $", 18, api.ErrRune)
	sum := hole("a")
	for range 7 {
		sum = do(api.OpAdd, sum, hole("a"))
	}
	p.reads(t, "@a"+strings.Repeat("+@a", 7), sum)
	p.reads(t, "-(@a"+strings.Repeat("+@a", 7)+")", do(api.OpNeg, sum))
	p.refuses(t, "@a"+strings.Repeat("+@a", 8), 26, api.ErrLarge)
}

func TestPatternHoles(t *testing.T) {
	p := calls()[1]
	six := hole("a")
	for _, name := range []string{"b", "c", "d", "e", "f"} {
		six = do(api.OpAdd, six, hole(name))
	}
	s := "@a+@b+@c+@d+@e+@f"
	p.reads(t, s, six)
	p.reads(t, s+"+@a", do(api.OpAdd, six, hole("a")))
	p.reads(t, s+"+@f+@c", do(api.OpAdd, do(api.OpAdd, six, hole("f")), hole("c")))
	// A variable is no hole, whatever its name.
	p.reads(t, s+"+g", do(api.OpAdd, six, vari("g")))
	p.reads(t, s+"+a+A", do(api.OpAdd, do(api.OpAdd, six, a), vari("A")))
	p.refuses(t, s+"+@g", 20, api.ErrLarge)
	p.refuses(t, s+"+@g ", 21, api.ErrLarge)
	p.refuses(t, s+"+@A", 20, api.ErrLarge)
	p.refuses(t, "@a+@b+@c+@d+@e+@é+@a+@g", 24, api.ErrLarge)
	p.refuses(t, s+"+@g+@h", 23, api.ErrLarge)
	p.refuses(t, s+"+@g+", 21, api.ErrText)
	p.refuses(t, s+"+@g $", 21, api.ErrRune)
	// Names of the same characters at first are names apart.
	p.refuses(t, "@a+@aa+@aaa+@aaaa+@a1+@a₁+@a١", len("@a+@aa+@aaa+@aaaa+@a1+@a₁+@a١"), api.ErrLarge)
}

// The rules that hold for all calls.

// cells has the address of every element that a list holds, spare room too.
func cells(l []api.Node) []any {
	var out []any
	for i := range l[:cap(l)] {
		n := &l[:cap(l)][i]
		out = append(out, n)
		for j := range n.Kids[:cap(n.Kids)] {
			out = append(out, &n.Kids[:cap(n.Kids)][j])
		}
	}
	return out
}

func TestMemory(t *testing.T) {
	s := "x?-a+b*2:(~é==@c)"
	for _, c := range calls() {
		s := s
		if !c.pattern {
			s = strings.ReplaceAll(s, "@", "")
		}
		first, _, e := c.f(s)
		want := text(first)
		second, _, e2 := c.f(s)
		if e != api.OK || e2 != api.OK || text(second) != want || len(first) != 12 {
			t.Fatalf("%s: %d, %d, %s", c.name, e, e2, text(second))
		}
		owners := map[any]int{}
		for i, l := range [][]api.Node{first, second} {
			for _, x := range cells(l) {
				if owners[x] != 0 {
					t.Fatalf("%s: memory of answer %d is that of answer %d too, or twice its own", c.name, i+1, owners[x])
				}
				owners[x] = i + 1
			}
		}
		for i := range first[:cap(first)] {
			n := &first[:cap(first)][i]
			for j := range n.Kids[:cap(n.Kids)] {
				n.Kids[:cap(n.Kids)][j] = 77
			}
			*n = api.Node{Op: 99, N: 98, Name: "spoilt"}
		}
		if third, _, _ := c.f(s); text(third) != want || text(second) != want {
			t.Errorf("%s: writing to one answer changes others", c.name)
		}
	}
}

// TestAgain: nothing is kept from call to call, also where the parser gave up deep inside.
func TestAgain(t *testing.T) {
	all := []string{"a+b", strings.Repeat("(", 100), strings.Repeat("(", 101), "((((@a", "a+$", minus(65), minus(64), "@a+@b+@c+@d+@e+@f+@g", "@x", "-5", "\xff", strings.Repeat("(", 100) + "a" + strings.Repeat(")", 100), ""}
	for range 3 {
		for _, s := range all {
			for _, then := range all {
				parse.Parse(s)
				parse.Pattern(s)
				same(t, then)
			}
		}
	}
}

// TestSideBySide: calls at one time do not touch each other.
func TestSideBySide(t *testing.T) {
	done := make(chan bool)
	for i := range 8 {
		go func() {
			good := true
			for j := range 300 {
				s := strings.Repeat("(", j%103) + "a+-7" + strings.Repeat(")", (j+i)%103)
				want := second(s, false)
				l, at, e := parse.Parse(s)
				good = good && text(l) == text(want.nodes) && at == want.at && e == want.err
			}
			done <- good
		}()
	}
	for range 8 {
		if !<-done {
			t.Error("a call answers otherwise beside others")
		}
	}
}

// The chapter's examples.

func TestExamples(t *testing.T) {
	p, q := calls()[0], calls()[1]
	p.reads(t, "a+b*2", do(api.OpAdd, a, do(api.OpMul, b, lit(2))))
	p.reads(t, "a − b ÷ c", do(api.OpSub, a, do(api.OpDiv, b, c)))
	p.reads(t, "¬a ∧ b", do(api.OpAnd, do(api.OpNot, a), b))
	p.reads(t, "٣+x₂", do(api.OpAdd, lit(3), vari("x₂")))
	p.reads(t, "-5", lit(-5))
	p.reads(t, "- 5", do(api.OpNeg, lit(5)))
	p.reads(t, "a-5", do(api.OpSub, a, lit(5)))
	p.reads(t, "a - -5", do(api.OpSub, a, lit(-5)))
	p.reads(t, "--5", do(api.OpNeg, lit(-5)))
	p.reads(t, "−5", lit(-5))
	p.reads(t, "a?b:c?d:e", do(api.OpIf, a, b, do(api.OpIf, c, d, vari("e"))))
	p.reads(t, "-9223372036854775808", lit(math.MinInt64))
	for _, f := range []struct {
		s   string
		at  int
		err api.Errno
	}{
		{"a<b<c", 3, api.ErrText}, {"a==b==c", 4, api.ErrText},
		{"", 0, api.ErrText}, {"a b", 2, api.ErrText}, {"(a", 2, api.ErrText}, {"a)", 1, api.ErrText}, {"a+$", 2, api.ErrRune}, {"a=b", 1, api.ErrRune}, {"@a", 0, api.ErrRune}, {"a\xff$", 1, api.ErrUtf8},
		{"9223372036854775808", 0, api.ErrLarge}, {"- 9223372036854775808", 2, api.ErrLarge}, {"1٢", 1, api.ErrText},
	} {
		p.refuses(t, f.s, f.at, f.err)
	}
	q.reads(t, "@a + 0", do(api.OpAdd, hole("a"), lit(0)))
	q.refuses(t, "@ 1", 2, api.ErrText)
}

// The list itself, written out: the order of the nodes and their Kids do not hang on the trees of these tests.
func TestNodes(t *testing.T) {
	l, at, e := parse.Parse("a?b-1:~(c*d)")
	want := []api.Node{
		{Op: api.OpVar, Name: "a"},
		{Op: api.OpVar, Name: "b"},
		{Op: api.OpLit, N: 1},
		{Op: api.OpSub, Kids: []int{1, 2}},
		{Op: api.OpVar, Name: "c"},
		{Op: api.OpVar, Name: "d"},
		{Op: api.OpMul, Kids: []int{4, 5}},
		{Op: api.OpNot, Kids: []int{6}},
		{Op: api.OpIf, Kids: []int{0, 3, 7}},
	}
	if text(l) != text(want) || at != 0 || e != api.OK {
		t.Errorf("%s, %d, %d", text(l), at, e)
	}
}
