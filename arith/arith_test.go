package arith_test

import (
	"fmt"
	"math"
	"math/big"
	"math/rand"
	"regexp"
	"slices"
	"strings"
	"testing"

	"sorrel/api"
	"sorrel/arith"
	"sorrel/parse"
	"sorrel/show"
)

const (
	least    = math.MinInt64
	greatest = math.MaxInt64
)

// numbers are the ends, what stands beside them, and some between.
var numbers = []int64{
	least, least + 1, least + 63, -1 << 62, -1 << 32, -1<<32 + 1, -3037000500, -1000, -129, -65, -64, -63, -8, -7, -3, -2, -1,
	0, 1, 2, 3, 7, 8, 10, 62, 63, 64, 65, 127, 128, 1000, 3037000499, 3037000500, 1 << 32, 1<<32 + 5, 0x5555555555555555, 1 << 62, greatest - 63, greatest - 1, greatest,
}

// applies holds what Apply answers against a number.
func applies(t *testing.T, want int64, op int, args ...int64) {
	t.Helper()
	if n, e := arith.Apply(op, args...); n != want || e != api.OK {
		t.Errorf("Apply(%d, %v) = %d, %d, want %d, 0", op, args, n, e, want)
	}
}

// fails holds what Apply answers against an error, beside which no number stands.
func fails(t *testing.T, want api.Errno, op int, args ...int64) {
	t.Helper()
	if n, e := arith.Apply(op, args...); n != 0 || e != want {
		t.Errorf("Apply(%d, %v) = %d, %d, want 0, %d", op, args, n, e, want)
	}
}

// agrees holds what Apply answers against the second reckoning.
func agrees(t *testing.T, op int, args ...int64) {
	t.Helper()
	want, f := apply(op, args)
	if n, e := arith.Apply(op, args...); n != want || e != f {
		t.Errorf("Apply(%d, %v) = %d, %d, want %d, %d", op, args, n, e, want, f)
	}
}

// P6.1

func TestOneNumber(t *testing.T) {
	for _, c := range []struct{ a, neg, not int64 }{
		{0, 0, -1},
		{1, -1, -2},
		{-1, 1, 0},
		{5, -5, -6},
		{-6, 6, 5},
		{least, least, greatest},
		{least + 1, greatest, greatest - 1},
		{greatest, -greatest, least},
	} {
		applies(t, c.neg, api.OpNeg, c.a)
		applies(t, c.not, api.OpNot, c.a)
	}
}

func TestWrapRound(t *testing.T) {
	applies(t, 5, api.OpAdd, 2, 3)
	applies(t, least, api.OpAdd, greatest, 1)
	applies(t, greatest, api.OpAdd, least, -1)
	applies(t, -2, api.OpAdd, greatest, greatest)
	applies(t, 0, api.OpAdd, least, least)
	applies(t, -1, api.OpAdd, least, greatest)

	applies(t, -1, api.OpSub, 2, 3)
	applies(t, 1, api.OpSub, 3, 2)
	applies(t, greatest, api.OpSub, least, 1)
	applies(t, least, api.OpSub, greatest, -1)
	applies(t, least, api.OpSub, 0, least)
	applies(t, 1, api.OpSub, least, greatest)
	applies(t, -1, api.OpSub, greatest, least)

	applies(t, -6, api.OpMul, 2, -3)
	applies(t, least, api.OpMul, least, -1)
	applies(t, least, api.OpMul, -1, least)
	applies(t, 0, api.OpMul, least, 2)
	applies(t, 0, api.OpMul, least, least)
	applies(t, 1, api.OpMul, greatest, greatest)
	applies(t, -2, api.OpMul, greatest, 2)
	applies(t, least, api.OpMul, 1<<62, 2)
	applies(t, 0, api.OpMul, 1<<32, 1<<32)
	applies(t, -9223372036709301616, api.OpMul, 3037000500, 3037000500)
}

func TestQuotients(t *testing.T) {
	for _, c := range []struct{ a, b, quotient, rest int64 }{
		{7, 2, 3, 1},
		{-7, 2, -3, -1},
		{7, -2, -3, 1},
		{-7, -2, 3, -1},
		{6, 3, 2, 0},
		{-6, 3, -2, 0},
		{1, 2, 0, 1},
		{-1, 2, 0, -1},
		{1, -2, 0, 1},
		{0, 5, 0, 0},
		{0, -5, 0, 0},
		{0, least, 0, 0},
		{5, 1, 5, 0},
		{5, -1, -5, 0},
		{least, 1, least, 0},
		{least, -1, least, 0},
		{least, 2, -1 << 62, 0},
		{least, -2, 1 << 62, 0},
		{least, 10, -922337203685477580, -8},
		{least, least, 1, 0},
		{least, greatest, -1, -1},
		{greatest, least, 0, greatest},
		{greatest, -1, -greatest, 0},
		{greatest, greatest, 1, 0},
		{greatest, 10, 922337203685477580, 7},
		{least + 1, -1, greatest, 0},
		{-1, least, 0, -1},
		{1, least, 0, 1},
	} {
		applies(t, c.quotient, api.OpDiv, c.a, c.b)
		applies(t, c.rest, api.OpRem, c.a, c.b)
	}
}

func TestTrap(t *testing.T) {
	for _, a := range numbers {
		fails(t, api.ErrTrap, api.OpDiv, a, 0)
		fails(t, api.ErrTrap, api.OpRem, a, 0)
	}
	// A 0 as the second number traps nowhere else.
	for op := api.OpAdd; op <= api.OpLt; op++ {
		if op == api.OpDiv || op == api.OpRem {
			continue
		}
		if _, e := arith.Apply(op, 5, 0); e != api.OK {
			t.Errorf("Apply(%d, 5, 0) answers %d", op, e)
		}
	}
}

// TestRest: what is left is a less b times the quotient, wrapped round.
func TestRest(t *testing.T) {
	for _, a := range numbers {
		for _, b := range numbers {
			if b == 0 {
				continue
			}
			q, e := arith.Apply(api.OpDiv, a, b)
			r, f := arith.Apply(api.OpRem, a, b)
			if e != api.OK || f != api.OK || r != a-b*q {
				t.Errorf("%d by %d: %d, %d, and %d, %d is left", a, b, q, e, r, f)
			}
		}
	}
}

func TestBits(t *testing.T) {
	for _, c := range []struct{ a, b, and, or, xor int64 }{
		{12, 10, 8, 14, 6},
		{0, 0, 0, 0, 0},
		{0, -1, 0, -1, -1},
		{-1, -1, -1, -1, 0},
		{-1, 5, 5, -1, -6},
		{-4, 6, 4, -2, -6},
		{least, greatest, 0, -1, -1},
		{least, -1, least, -1, greatest},
		{least, 1, 0, least + 1, least + 1},
		{greatest, 1, 1, greatest, greatest - 1},
	} {
		for _, p := range [][2]int64{{c.a, c.b}, {c.b, c.a}} {
			applies(t, c.and, api.OpAnd, p[0], p[1])
			applies(t, c.or, api.OpOr, p[0], p[1])
			applies(t, c.xor, api.OpXor, p[0], p[1])
		}
	}
}

func TestShifts(t *testing.T) {
	for _, c := range []struct{ a, b, up, down int64 }{
		{1, 0, 1, 1},
		{1, 1, 2, 0},
		{1, 62, 1 << 62, 0},
		{1, 63, least, 0},
		{1, 64, 1, 1},
		{1, 65, 2, 0},
		{1, 127, least, 0},
		{1, 128, 1, 1},
		{1, -1, least, 0},
		{1, -2, 1 << 62, 0},
		{1, -63, 2, 0},
		{1, -64, 1, 1},
		{1, -65, least, 0},
		{5, least, 5, 5},
		{5, least + 1, 10, 2},
		{5, greatest, least, 0},
		{5, 1 << 32, 5, 5},
		{5, 1<<32 + 1, 10, 2},
		{-8, 0, -8, -8},
		{-8, 1, -16, -4},
		{-8, 63, 0, -1},
		{-8, 64, -8, -8},
		{-7, 1, -14, -4},
		{-1, 63, least, -1},
		{-1, -1, least, -1},
		{least, 1, 0, -1 << 62},
		{least, 63, 0, -1},
		{least, 64, least, least},
		{greatest, 1, -2, 1<<62 - 1},
		{greatest, 62, -1 << 62, 1},
		{greatest, 63, least, 0},
		{greatest, greatest, least, 0},
		{0, 63, 0, 0},
		{0, -1, 0, 0},
	} {
		applies(t, c.up, api.OpShl, c.a, c.b)
		applies(t, c.down, api.OpShr, c.a, c.b)
	}
	// All that counts of the second number is its lowest six bits.
	for b := int64(-200); b <= 200; b++ {
		for _, a := range numbers {
			agrees(t, api.OpShl, a, b)
			agrees(t, api.OpShr, a, b)
		}
	}
}

func TestComparisons(t *testing.T) {
	for _, c := range []struct{ a, b, eq, lt int64 }{
		{2, 2, 1, 0},
		{2, 3, 0, 1},
		{3, 2, 0, 0},
		{-1, 0, 0, 1},
		{0, -1, 0, 0},
		{0, 0, 1, 0},
		{-1, 1, 0, 1},
		{-2, -1, 0, 1},
		{least, greatest, 0, 1},
		{greatest, least, 0, 0},
		{least, least, 1, 0},
		{greatest, greatest, 1, 0},
		{least, -1, 0, 1},
		{1, 1<<32 + 1, 0, 1},
	} {
		applies(t, c.eq, api.OpEq, c.a, c.b)
		applies(t, c.lt, api.OpLt, c.a, c.b)
	}
}

func TestChoice(t *testing.T) {
	for _, c := range numbers {
		want := int64(5)
		if c == 0 {
			want = 7
		}
		applies(t, want, api.OpIf, c, 5, 7)
	}
	applies(t, greatest, api.OpIf, 0, least, greatest)
	applies(t, least, api.OpIf, 1, least, greatest)
	applies(t, 0, api.OpIf, 0, 1, 0)
	applies(t, 0, api.OpIf, 1<<32, 0, 1)
}

// TestEveryOperator has every operator at all numbers, in each of its places.
func TestEveryOperator(t *testing.T) {
	for op := api.OpNeg; op <= api.OpIf; op++ {
		for _, a := range numbers {
			for _, b := range numbers {
				for _, c := range numbers {
					agrees(t, op, []int64{a, b, c}[:arity(op)]...)
					if arity(op) < 3 {
						break
					}
				}
				if arity(op) < 2 {
					break
				}
			}
		}
	}
}

// sized is a number of any size, small ones as often as great ones.
func sized(r *rand.Rand) int64 { return int64(r.Uint64()) >> r.Intn(64) }

func TestRandomNumbers(t *testing.T) {
	r := rand.New(rand.NewSource(6))
	for range 20000 {
		a, b, c := sized(r), sized(r), sized(r)
		for op := api.OpNeg; op <= api.OpIf; op++ {
			agrees(t, op, []int64{a, b, c}[:arity(op)]...)
		}
	}
}

// TestNoOperator: with every number of args, also with none, what is no operator with parts is ErrArg.
func TestNoOperator(t *testing.T) {
	wrong := []int{math.MinInt, -1 << 32, -17, -5, -1, 0, api.OpLit, api.OpVar, api.OpHole, 19, 20, 99, 256 + api.OpAdd, 1<<32 + api.OpAdd, math.MaxInt}
	for _, op := range wrong {
		args := []int64{}
		for range 6 {
			fails(t, api.ErrArg, op, args...)
			args = append(args, 1)
		}
		fails(t, api.ErrArg, op)
		fails(t, api.ErrArg, op, 5, 0)
	}
}

// TestHowMany has every operator with every number of args from none to more than any operator has.
func TestHowMany(t *testing.T) {
	for op := api.OpNeg; op <= api.OpIf; op++ {
		for count := range 8 {
			args := slices.Repeat([]int64{3}, count)
			if count != arity(op) {
				fails(t, api.ErrArg, op, args...)
			} else if _, e := arith.Apply(op, args...); e != api.OK {
				t.Errorf("Apply(%d, %v) answers %d", op, args, e)
			}
		}
		fails(t, api.ErrArg, op, nil...)
		fails(t, api.ErrArg, op, make([]int64, 100000)...)
	}
}

// TestWhichError: with a wrong number of args, ErrArg counts ahead of ErrTrap.
func TestWhichError(t *testing.T) {
	for _, op := range []int{api.OpDiv, api.OpRem} {
		fails(t, api.ErrArg, op)
		fails(t, api.ErrArg, op, 0)
		fails(t, api.ErrArg, op, 5)
		fails(t, api.ErrArg, op, 5, 0, 0)
		fails(t, api.ErrArg, op, 5, 0, 1)
		fails(t, api.ErrArg, op, 5, 0, 0, 0)
	}
}

// P6.2

var text = regexp.MustCompile(`^(0|-?[1-9][0-9]*)$`)

// writes holds the text of a number against a second reckoning, and reads it back in three ways.
func writes(t *testing.T, n int64) {
	t.Helper()
	s := arith.Text(n)
	if want := big.NewInt(n).String(); s != want || !text.MatchString(s) {
		t.Errorf("Text(%d) = %q, want %q", n, s, want)
	}
	if back, e := arith.Read(s); back != n || e != api.OK {
		t.Errorf("Read(%q) = %d, %d, want %d, 0", s, back, e, n)
	}
	literal := []api.Node{{Op: api.OpLit, N: n}}
	if shown, e := show.Show(literal); shown != s || e != api.OK {
		t.Errorf("the literal %d is shown as %q, and Text writes %q", n, shown, s)
	}
	if l, at, e := parse.Parse(s); e != api.OK || len(l) != 1 || l[0].Op != api.OpLit || l[0].N != n {
		t.Errorf("Parse(%q) = %v, %d, %d", s, l, at, e)
	}
}

func TestText(t *testing.T) {
	for _, c := range []struct {
		n int64
		s string
	}{
		{0, "0"},
		{1, "1"},
		{-1, "-1"},
		{9, "9"},
		{10, "10"},
		{-10, "-10"},
		{99, "99"},
		{100, "100"},
		{1000000, "1000000"},
		{-5, "-5"},
		{greatest, "9223372036854775807"},
		{greatest - 1, "9223372036854775806"},
		{least, "-9223372036854775808"},
		{least + 1, "-9223372036854775807"},
	} {
		if s := arith.Text(c.n); s != c.s {
			t.Errorf("Text(%d) = %q, want %q", c.n, s, c.s)
		}
	}
}

// TestThereAndBack is P2 too: Read of Text is the number.
func TestThereAndBack(t *testing.T) {
	for _, n := range numbers {
		writes(t, n)
	}
	for n := int64(-2000); n <= 2000; n++ {
		writes(t, n)
	}
	for n := int64(1); n < greatest/10; n *= 10 {
		for _, by := range []int64{-1, 0, 1} {
			writes(t, n+by)
			writes(t, -n+by)
		}
	}
	r := rand.New(rand.NewSource(62))
	for range 5000 {
		writes(t, sized(r))
	}
}

// P6.3

// scripts are the digits 0 of the three scripts.
var scripts = []rune{'0', 0x660, 0xff10}

// in writes plain digits in another script; all else stays.
func in(script rune, s string) string {
	return strings.Map(func(r rune) rune {
		if r >= '0' && r <= '9' {
			return r - '0' + script
		}
		return r
	}, s)
}

// reads holds what Read answers against a number.
func reads(t *testing.T, s string, want int64) {
	t.Helper()
	if n, e := arith.Read(s); n != want || e != api.OK {
		t.Errorf("Read(%.60q) = %d, %d, want %d, 0", s, n, e, want)
	}
	if n, e := read(s); n != want || e != api.OK {
		t.Errorf("the second reckoning reads %.60q as %d, %d", s, n, e)
	}
}

// refuses holds what Read answers against an error, beside which no number stands.
func refuses(t *testing.T, s string, want api.Errno) {
	t.Helper()
	if n, e := arith.Read(s); n != 0 || e != want {
		t.Errorf("Read(%.60q) = %d, %d, want 0, %d", s, n, e, want)
	}
	if n, e := read(s); n != 0 || e != want {
		t.Errorf("the second reckoning reads %.60q as %d, %d", s, n, e)
	}
}

// everyWay calls f with plain digits in each script, without and with each minus.
func everyWay(s string, f func(s string, below bool)) {
	for _, script := range scripts {
		f(in(script, s), false)
		f(in(script, "-"+s), true)
		f(in(script, "\u2212"+s), true)
	}
}

func TestReadInEveryWay(t *testing.T) {
	for _, c := range []struct {
		s string
		n int64
	}{
		{"0", 0}, {"7", 7}, {"42", 42}, {"1234567890", 1234567890}, {"9223372036854775807", greatest},
		{"00", 0}, {"007", 7}, {"000000000000000000000000000001", 1}, {"00009223372036854775807", greatest},
	} {
		everyWay(c.s, func(s string, below bool) {
			if below {
				reads(t, s, -c.n)
			} else {
				reads(t, s, c.n)
			}
		})
	}
}

func TestEnds(t *testing.T) {
	for _, ahead := range []string{"", "0", strings.Repeat("0", 500)} {
		everyWay(ahead+"9223372036854775808", func(s string, below bool) {
			if below {
				reads(t, s, least)
			} else {
				refuses(t, s, api.ErrLarge)
			}
		})
		// One beyond both ends, 2^64 and what stands beside it, what would come round to 1 or to 0, and more digits than any number has.
		for _, digits := range []string{
			"9223372036854775809", "9999999999999999999", "10000000000000000000",
			"18446744073709551615", "18446744073709551616", "18446744073709551617",
			"36893488147419103233", "92233720368547758070", "99999999999999999999",
			"340282366920938463463374607431768211456", "340282366920938463463374607431768211457",
			"1" + strings.Repeat("0", 64), "1" + strings.Repeat("0", 200),
		} {
			everyWay(ahead+digits, func(s string, below bool) { refuses(t, s, api.ErrLarge) })
		}
	}
}

func TestLongTexts(t *testing.T) {
	for _, c := range []struct {
		minus  string
		script rune
		digits int
	}{
		{"", '0', 4096}, {"-", '0', 4095}, {"\u2212", '0', 4093},
		{"", 0x660, 2048}, {"-", 0x660, 2047}, {"\u2212", 0x660, 2046},
		{"", 0xff10, 1365}, {"-", 0xff10, 1365}, {"\u2212", 0xff10, 1364},
	} {
		noughts := strings.Repeat(string(c.script), c.digits-1)
		want := int64(7)
		if c.minus != "" {
			want = -7
		}
		reads(t, c.minus+noughts+string(c.script+7), want)
		refuses(t, c.minus+string(c.script+1)+noughts, api.ErrLarge)
		refuses(t, c.minus+noughts+string(c.script)+string(c.script+7), api.ErrLong)
	}
	// One byte more than MaxText counts ahead of whatever else is at fault.
	for _, s := range []string{"0", "9", "x", " ", "-", "\xff"} {
		refuses(t, strings.Repeat(s, 4097), api.ErrLong)
		refuses(t, strings.Repeat(s, 1<<20), api.ErrLong)
	}
	refuses(t, strings.Repeat("9", 4096), api.ErrLarge)
	refuses(t, strings.Repeat("x", 4096), api.ErrText)
	refuses(t, strings.Repeat("-", 4096), api.ErrText)
	refuses(t, strings.Repeat("\xff", 4096), api.ErrText)
}

func TestWrongTexts(t *testing.T) {
	for _, s := range []string{
		"", "-", "\u2212", "--", "--7", "-\u22127", "\u2212-7", "\u2212\u22127", "7-", "7\u2212", "-7-", "7-7",
		"+", "+7", "+-7", "-+7", "7+7", "+0",
		"x", "7x", "x7", "7x7", "-x", "0x7", "1e3", "1.0", "1_000", "1,000", "(7)", "~7", "a", "infinity", "NaN",
		"1\u0662", "\u06621", "1\uff12", "\uff121", "\u0661\uff12", "\uff12\u0661", "-1\u0662", "-\u06621", "11111\u0661", "1\u06621", "0\u0660", "\u06600", "\uff100", "\u0660\uff10",
		"\u2087", "7\u2087", "\u00b2", "7\u00b2", "\u0967", "\u06f7", "\U0001d7d7", "\u4e00", "\u2167", "\u2460", "\u00bd",
		"\u20107", "\u20117", "\u20137", "\u20147", "\ufe637", "\uff0d7", "\u00ad7", "\u207b7", "\u00ac7", "\u00d77",
		"\xff", "7\xff", "\xff7", "-\xff", "-7\xff", "7\xff7", "\ufffd", "7\ufffd", "\xe2\x887", "\xe2\x88", "\x927", "7\xd9", "\xa2", "\u0661\xd9", "\xef\xbc", "\x00", "7\x00", "\x007",
		"\ufeff7", "7\u200b", "\u200e7", "7\u0301",
	} {
		refuses(t, s, api.ErrText)
	}
}

// TestBlanks: no blank, of chapter 1 or of any other kind, stands anywhere.
func TestBlanks(t *testing.T) {
	for _, b := range []string{" ", "\t", "\n", "\r", "\u00a0", "\u3000", "\v", "\f", "\u0085", "\u2003", "\r\n", "  "} {
		for _, s := range []string{b, b + "7", "7" + b, "7" + b + "7", b + "-7", "-" + b + "7", "\u2212" + b + "7", "-7" + b, b + "7" + b, "0" + b + "0"} {
			refuses(t, s, api.ErrText)
		}
	}
}

// TestWhichFault: ErrText counts ahead of ErrLarge, wherever in the text its fault stands.
func TestWhichFault(t *testing.T) {
	large := strings.Repeat("9", 30)
	for _, wrong := range []string{"x", " ", "-", "+", "\u2212", "\u0661", "\uff11", "\u2081", "\xff", "\ufffd", "\x00"} {
		refuses(t, large+wrong, api.ErrText)
		refuses(t, "-"+large+wrong, api.ErrText)
		refuses(t, large+wrong+large, api.ErrText)
		refuses(t, large+wrong+"x", api.ErrText)
		refuses(t, "9223372036854775808"+wrong, api.ErrText)
		refuses(t, strings.Repeat("9", 4096-len(wrong))+wrong, api.ErrText)
	}
	for _, wrong := range []string{"x", " ", "--", "+", "\u0661", "\uff11", "\u2081", "\xff", "\ufffd", "\x00"} {
		refuses(t, wrong+large, api.ErrText)
	}
}

// TestShortTexts has every text of up to four pieces: digits of all scripts, both signs, and what is near to them.
func TestShortTexts(t *testing.T) {
	pieces := []string{
		"-", "\u2212", "0", "7", "\u0660", "\u0663", "\uff10", "\uff19", "9223372036854775807", "9223372036854775808", "18446744073709551616",
		"+", " ", "a", "\u2082", "\u0967", "\ufffd", "\xff", "\xe2\x88", "\x92", "\xd9", "\xa3",
	}
	var all func(s string, most int)
	all = func(s string, most int) {
		want, f := read(s)
		if n, e := arith.Read(s); n != want || e != f {
			t.Errorf("Read(%q) = %d, %d, want %d, %d", s, n, e, want, f)
		}
		if most == 0 {
			return
		}
		for _, p := range pieces {
			all(s+p, most-1)
		}
	}
	all("", 4)
}

// TestOneCharacter: of all characters, alone, behind a digit and behind a minus, just the digits are read.
func TestOneCharacter(t *testing.T) {
	for r := rune(0); r <= 0x10ffff; r++ {
		for _, s := range []string{string(r), "5" + string(r), "-" + string(r)} {
			want, f := read(s)
			if n, e := arith.Read(s); n != want || e != f {
				t.Fatalf("Read(%q) = %d, %d, want %d, %d", s, n, e, want, f)
			}
		}
	}
}

// TestSpoiltNumbers: random numbers, in any way of writing, in most of which one byte is another.
func TestSpoiltNumbers(t *testing.T) {
	r := rand.New(rand.NewSource(63))
	for range 5000 {
		digits := strings.Repeat("0", r.Intn(3)) + big.NewInt(sized(r)).Text(10)
		digits = strings.TrimPrefix(digits, "-") + strings.Repeat("9", r.Intn(3))
		everyWay(digits, func(s string, below bool) {
			b := []byte(s)
			if r.Intn(4) > 0 {
				b[r.Intn(len(b))] = byte(r.Intn(256))
			}
			s = string(b)
			want, f := read(s)
			if n, e := arith.Read(s); n != want || e != f {
				t.Errorf("Read(%q) = %d, %d, want %d, %d", s, n, e, want, f)
			}
		})
	}
}

// The rules that hold for all calls.

// TestHandedInStays: the numbers of a list stay, those in its spare room too.
func TestHandedInStays(t *testing.T) {
	for op := -1; op <= 20; op++ {
		for count := range 6 {
			args := []int64{least, -7, 0, 7, greatest, 1 << 40, 9}
			want := slices.Clone(args)
			arith.Apply(op, args[:count]...)
			arith.Apply(op, args[7-count:]...)
			if !slices.Equal(args, want) {
				t.Errorf("Apply(%d, %d numbers) makes %v of %v", op, count, args, want)
			}
		}
	}
}

// answer is what a call answers, whichever it is.
type answer struct {
	n int64
	e api.Errno
	s string
}

// calls are some of each kind, those that answer errors too.
func calls() []func() answer {
	var all []func() answer
	for _, args := range [][]int64{{}, {5}, {least}, {7, 0}, {least, -1}, {1, -1}, {-7, 2}, {0, 5, 7}, {1, 5, 7}, {1, 2, 3, 4}} {
		for op := api.OpLit; op <= api.OpHole; op++ {
			all = append(all, func() (a answer) {
				a.n, a.e = arith.Apply(op, args...)
				return a
			})
		}
	}
	for _, s := range []string{"", "-", "7", "-\u0664\u0662", "\u22127", "\uff17", "7x", "9223372036854775808", "-9223372036854775808", strings.Repeat("0", 4096), strings.Repeat("0", 4097)} {
		all = append(all, func() (a answer) {
			a.n, a.e = arith.Read(s)
			return a
		})
	}
	for _, n := range []int64{0, -5, least, greatest} {
		all = append(all, func() answer { return answer{s: arith.Text(n)} })
	}
	return all
}

// TestAgain: nothing is kept from call to call, whichever comes ahead.
func TestAgain(t *testing.T) {
	all := calls()
	var first []answer
	for _, call := range all {
		first = append(first, call())
	}
	for i, before := range all {
		for j, call := range all {
			before()
			if got := call(); got != first[j] {
				t.Errorf("call %d behind call %d: %v, at first %v", j, i, got, first[j])
			}
		}
	}
}

// TestSideBySide: calls at one time do not touch each other.
func TestSideBySide(t *testing.T) {
	all := calls()
	var first []answer
	for _, call := range all {
		first = append(first, call())
	}
	done := make(chan string)
	for range 8 {
		go func() {
			wrong := ""
			for range 50 {
				for i, call := range all {
					if got := call(); got != first[i] {
						wrong = fmt.Sprint(got, " at first ", first[i])
					}
				}
			}
			done <- wrong
		}()
	}
	for range 8 {
		if wrong := <-done; wrong != "" {
			t.Error("a call answers otherwise beside others: ", wrong)
		}
	}
}

// The chapter's examples.

func TestExamples(t *testing.T) {
	applies(t, -3, api.OpDiv, -7, 2)
	applies(t, -1, api.OpRem, -7, 2)
	applies(t, least, api.OpDiv, least, -1)
	applies(t, 0, api.OpRem, least, -1)
	fails(t, api.ErrTrap, api.OpDiv, 0, 0)

	applies(t, 1, api.OpShl, 1, 64)
	applies(t, -4, api.OpShr, -8, 1)
	applies(t, least, api.OpShl, 1, -1)
	applies(t, 7, api.OpIf, 0, 5, 7)
	fails(t, api.ErrArg, api.OpAdd, 1)
	fails(t, api.ErrArg, api.OpLit)

	if s := arith.Text(-5); s != "-5" {
		t.Errorf("Text(-5) = %q", s)
	}
	reads(t, "-٤٢", -42)
	reads(t, "−7", -7)
	for _, s := range []string{"+7", "1٢", "", "-"} {
		refuses(t, s, api.ErrText)
	}
	refuses(t, "9223372036854775808", api.ErrLarge)
	reads(t, "-9223372036854775808", least)
	reads(t, "-0", 0)
}
