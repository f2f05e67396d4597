package runes_test

import (
	"fmt"
	"math"
	"math/big"
	"slices"
	"strings"
	"testing"
	"unicode/utf8"

	"sorrel/api"
	"sorrel/runes"
)

// texts calls f with every text of up to most of the pieces. The pieces hold characters of all kinds and widths, and beginnings and ends of characters that become characters, or bad bytes, by what stands beside them.
func texts(most int, f func(s string)) {
	pieces := []string{
		"a", "é", "中", "\U00010400", "7", "٣", "９", "₂", " ", "+", "$", "\n", "\ufffd",
		"\xff", "\xc3", "\xa9", "\xed\xa0", "\xef\xbf", "\xbd", "\xf0\x90\x90",
	}
	level := []string{""}
	for n := 0; ; n++ {
		var next []string
		for _, s := range level {
			f(s)
			if n < most {
				for _, p := range pieces {
					next = append(next, s+p)
				}
			}
		}
		if n == most {
			return
		}
		level = next
	}
}

// kindOf is the chapter's list of kinds, once more and in its own words.
func kindOf(r rune) int {
	in := func(first, last rune) bool { return first <= r && r <= last }
	one := func(s string) bool { return slices.Contains([]rune(s), r) }
	switch {
	case r < 0 || in(0xd800, 0xdfff) || r > 0x10ffff:
		return 0
	case in('a', 'z') || in('A', 'Z') || r == '_':
		return 1
	case in(0xc0, 0x24f) && r != 0xd7 && r != 0xf7:
		return 1
	case in(0x370, 0x3ff) && r != 0x37e && r != 0x387:
		return 1
	case in(0x400, 0x52f) && !in(0x482, 0x489):
		return 1
	case in(0x4e00, 0x9fff) || in(0x10400, 0x1044f):
		return 1
	case in('0', '9') || in(0x660, 0x669) || in(0xff10, 0xff19):
		return 2
	case one(" \t\n\r\u00a0\u3000"):
		return 3
	case one("()+-*/%&|^~<>=?:;,@\u00ac\u00b7\u00d7\u00f7\u2212\u2227\u2228\u2261\u226a\u226b\u2295"):
		return 4
	case in(0x2080, 0x2089):
		return 5
	}
	return 0
}

// P1.1

func TestCheck(t *testing.T) {
	for _, c := range []struct {
		s  string
		at int
		e  api.Errno
	}{
		{"a\xc3", 1, api.ErrUtf8},
		{"aé\xff", 3, api.ErrUtf8},
		{"\ufffd", 0, api.OK},
		{"", 0, api.OK},
		{"größe ٣ 中 \U0010ffff\x00", 0, api.OK},
		{"\xff", 0, api.ErrUtf8},
		{"\x80a", 0, api.ErrUtf8},
		{"a\xff\xff", 1, api.ErrUtf8},
		{"\ufffd\xff", 3, api.ErrUtf8},
		{"\ufffd\xef\xbf", 3, api.ErrUtf8}, // the beginning of a U+FFFD
		{"x\xef\xbf\ufffd", 1, api.ErrUtf8},
		{"ab\xed\xa0\x80", 2, api.ErrUtf8},     // a surrogate
		{"ab\xc0\x80", 2, api.ErrUtf8},         // longer than need be
		{"ab\xf4\x90\x80\x80", 2, api.ErrUtf8}, // above U+10FFFF
		{"中\xe4\xb8", 3, api.ErrUtf8},
	} {
		if at, e := runes.Check(c.s); at != c.at || e != c.e {
			t.Errorf("Check(%q) = %d, %d, want %d, %d", c.s, at, e, c.at, c.e)
		}
	}
}

func TestCheckOfManyTexts(t *testing.T) {
	texts(3, func(s string) {
		at, e := runes.Check(s)
		if utf8.ValidString(s) {
			if at != 0 || e != api.OK {
				t.Errorf("Check(%q) = %d, %d, want 0, OK", s, at, e)
			}
			return
		}
		want := 0
		for {
			r, n := utf8.DecodeRuneInString(s[want:])
			if r == utf8.RuneError && n == 1 {
				break
			}
			want += n
		}
		if at != want || e != api.ErrUtf8 {
			t.Errorf("Check(%q) = %d, %d, want %d, ErrUtf8", s, at, e, want)
		}
	})
}

// P1.2

func TestKindOfExamples(t *testing.T) {
	for _, c := range []struct {
		r    rune
		want int
	}{{'é', 1}, {'×', 4}, {'٣', 2}, {0x3000, 3}, {'₂', 5}, {'$', 0}, {-1, 0}, {0xd800, 0}} {
		if got := runes.Kind(c.r); got != c.want {
			t.Errorf("Kind(%#x) = %d, want %d", c.r, got, c.want)
		}
	}
}

func TestKindAtTheEndsOfSpans(t *testing.T) {
	for _, c := range []struct {
		first, last             rune
		kind, ahead, behindLast int
	}{
		{'a', 'z', 1, 0, 0}, {'A', 'Z', 1, 4, 0}, {'_', '_', 1, 4, 0},
		{0xc0, 0xd6, 1, 0, 4}, {0xd8, 0xf6, 1, 4, 4}, {0xf8, 0x24f, 1, 4, 0},
		{0x370, 0x37d, 1, 0, 0}, {0x37f, 0x386, 1, 0, 0}, {0x388, 0x3ff, 1, 0, 1},
		{0x400, 0x481, 1, 1, 0}, {0x48a, 0x52f, 1, 0, 0},
		{0x4e00, 0x9fff, 1, 0, 0}, {0x10400, 0x1044f, 1, 0, 0},
		{'0', '9', 2, 4, 4}, {0x660, 0x669, 2, 0, 0}, {0xff10, 0xff19, 2, 0, 0},
		{0x9, 0xa, 3, 0, 0}, {0xd, 0xd, 3, 0, 0}, {0x20, 0x20, 3, 0, 0}, {0xa0, 0xa0, 3, 0, 0}, {0x3000, 0x3000, 3, 0, 0},
		{'%', '&', 4, 0, 0}, {'(', '-', 4, 0, 0}, {'/', '/', 4, 0, 2}, {':', '@', 4, 2, 1},
		{'^', '^', 4, 0, 1}, {'|', '|', 4, 0, 0}, {'~', '~', 4, 0, 0},
		{0xac, 0xac, 4, 0, 0}, {0xb7, 0xb7, 4, 0, 0}, {0xd7, 0xd7, 4, 1, 1}, {0xf7, 0xf7, 4, 1, 1},
		{0x2212, 0x2212, 4, 0, 0}, {0x2227, 0x2228, 4, 0, 0}, {0x2261, 0x2261, 4, 0, 0}, {0x226a, 0x226b, 4, 0, 0}, {0x2295, 0x2295, 4, 0, 0},
		{0x2080, 0x2089, 5, 0, 0},
	} {
		got := [4]int{runes.Kind(c.first - 1), runes.Kind(c.first), runes.Kind(c.last), runes.Kind(c.last + 1)}
		if want := [4]int{c.ahead, c.kind, c.kind, c.behindLast}; got != want {
			t.Errorf("%#x to %#x: the kinds ahead, at the ends and behind are %v, want %v", c.first, c.last, got, want)
		}
	}
}

func TestKindOfEveryRune(t *testing.T) {
	for r := rune(-1000); r <= 0x110400; r++ {
		if got, want := runes.Kind(r), kindOf(r); got != want {
			t.Errorf("Kind(%#x) = %d, want %d", r, got, want)
		}
	}
}

func TestKindOfRunesThatAreNoCharacters(t *testing.T) {
	for _, r := range []rune{math.MinInt32, -'a', -1, 0xd800, 0xdbff, 0xdc00, 0xdfff, 0x110000, 0x110000 + 'a', math.MaxInt32, utf8.RuneError} {
		if got := runes.Kind(r); got != 0 {
			t.Errorf("Kind(%#x) = %d, want 0", r, got)
		}
	}
}

func TestName(t *testing.T) {
	for _, c := range []struct {
		s    string
		want bool
	}{
		{"x₂", true}, {"größe3", true}, {"_", true}, {"a", true}, {"Z9", true}, {"λ", true}, {"ж٣", true}, {"中９", true}, {"\U00010400₉_", true},
		{"₂x", false}, {"3x", false}, {"٣x", false}, {"９", false}, {"", false}, {"a b", false}, {" a", false}, {"a ", false}, {"a+", false}, {"+", false}, {"a\n", false}, {"a$", false},
		{"a\xff", false}, {"\xff", false}, {"\xffa", false}, {"a\xc3", false}, {"a\ufffd", false}, {"\ufffd", false}, {"a\xed\xa0\x80", false},
		{strings.Repeat("é", 15), true}, {strings.Repeat("é", 16), true}, {strings.Repeat("é", 17), false},
		{strings.Repeat("\U00010400", 16), true}, {strings.Repeat("\U00010400", 17), false},
		{"a" + strings.Repeat("1", 15), true}, {"a" + strings.Repeat("1", 16), false},
		{"a" + strings.Repeat("₂", 15), true}, {"a" + strings.Repeat("₂", 16), false},
		{strings.Repeat("a", 16) + "\xff", false}, {strings.Repeat("a", 15) + " ", false}, {strings.Repeat("a", 100000), false},
	} {
		if got := runes.Name(c.s); got != c.want {
			t.Errorf("Name(%.40q) = %t, want %t", c.s, got, c.want)
		}
	}
}

func TestNameOfManyTexts(t *testing.T) {
	texts(3, func(s string) {
		rs := []rune(s)
		want := utf8.ValidString(s) && len(rs) > 0
		for i, r := range rs {
			k := kindOf(r)
			want = want && (k == 1 || i > 0 && (k == 2 || k == 5))
		}
		if got := runes.Name(s); got != want {
			t.Errorf("Name(%q) = %t, want %t", s, got, want)
		}
	})
}

// P1.3

func TestSpan(t *testing.T) {
	for _, c := range []struct {
		s       string
		at, end int
		e       api.Errno
	}{
		{"éa+", 0, 3, api.OK}, {"éa+", 2, 3, api.OK},
		{"éa+", 1, 0, api.ErrNone}, // inside a character
		{"éa+", 3, 0, api.ErrNone},
		{"éa+", 4, 0, api.ErrNone}, // the end
		{"éa+", 5, 0, api.ErrArg},
		{"éa+", -1, 0, api.ErrArg},
		{"3", 0, 0, api.ErrNone}, {"₂a", 0, 0, api.ErrNone}, {" a", 0, 0, api.ErrNone},
		{"", 0, 0, api.ErrNone}, {"", 1, 0, api.ErrArg}, {"", -1, 0, api.ErrArg},
		{"a", math.MaxInt, 0, api.ErrArg}, {"a", math.MinInt, 0, api.ErrArg},
		{"x1٢９₃é中\U00010400 y", 0, 19, api.OK},
		{"ab cd", 0, 2, api.OK}, {"ab cd", 3, 5, api.OK}, {"ab cd", 4, 5, api.OK},
		{"a\xffb", 0, 1, api.OK}, {"a\xffb", 1, 0, api.ErrNone}, {"a\xffb", 2, 3, api.OK},
		{"a\ufffdb", 0, 1, api.OK}, {"a\ufffd", 1, 0, api.ErrNone},
		{"\xe4\xb8a", 0, 0, api.ErrNone}, {"\xe4\xb8a", 1, 0, api.ErrNone}, {"\xe4\xb8a", 2, 3, api.OK},
		{strings.Repeat("é", 17), 0, 34, api.OK}, // longer than a name may be
		{strings.Repeat("a", 5000) + ";", 0, 5000, api.OK},
	} {
		if end, e := runes.Span(c.s, c.at); end != c.end || e != c.e {
			t.Errorf("Span(%.40q, %d) = %d, %d, want %d, %d", c.s, c.at, end, e, c.end, c.e)
		}
	}
}

func TestSpanAtEveryPlace(t *testing.T) {
	texts(3, func(s string) {
		for at := -1; at <= len(s)+1; at++ {
			end, e := runes.Span(s, at)
			if wantEnd, want := spanAt(s, at); end != wantEnd || e != want {
				t.Errorf("Span(%q, %d) = %d, %d, want %d, %d", s, at, end, e, wantEnd, want)
			}
		}
	})
}

// spanAt goes byte by byte over a list of what begins at each place.
func spanAt(s string, at int) (int, api.Errno) {
	if at < 0 || at > len(s) {
		return 0, api.ErrArg
	}
	begins := map[int]rune{}
	for i, r := range s {
		begins[i] = r
	}
	if kindOf(begins[at]) != 1 {
		return 0, api.ErrNone
	}
	for end := at + 1; end < len(s); end++ {
		if r, ok := begins[end]; ok && !slices.Contains([]int{1, 2, 5}, kindOf(r)) {
			return end, api.OK
		}
	}
	return len(s), api.OK
}

// P1.4

func TestNumber(t *testing.T) {
	for _, c := range []struct {
		s   string
		at  int
		n   uint64
		end int
		e   api.Errno
	}{
		{"٤٢x", 0, 42, 4, api.OK}, {"٤٢x", 2, 2, 4, api.OK},
		{"٤٢x", 1, 0, 0, api.ErrNone}, // inside a character
		{"٤٢x", 4, 0, 0, api.ErrNone},
		{"٤٢x", 5, 0, 0, api.ErrNone}, // the end
		{"٤٢x", 6, 0, 0, api.ErrArg},
		{"4٢", 0, 4, 1, api.OK}, {"4٢", 1, 2, 3, api.OK}, {"٤2", 0, 4, 2, api.OK}, {"４2", 0, 4, 3, api.OK}, {"٤４", 0, 4, 2, api.OK}, {"4４", 0, 4, 1, api.OK},
		{"007", 0, 7, 3, api.OK}, {"007", 1, 7, 3, api.OK}, {"0", 0, 0, 1, api.OK},
		{"0123456789", 0, 123456789, 10, api.OK}, {"٠١٢٣٤٥٦٧٨٩", 0, 123456789, 20, api.OK}, {"０１２３４５６７８９", 0, 123456789, 30, api.OK},
		{"18446744073709551615", 0, math.MaxUint64, 20, api.OK},
		{"18446744073709551615;", 0, math.MaxUint64, 20, api.OK},
		{"18446744073709551614", 0, math.MaxUint64 - 1, 20, api.OK},
		{"18446744073709551616", 0, 0, 0, api.ErrLarge},
		{"18446744073709551619", 0, 0, 0, api.ErrLarge},
		{"18446744073709551620", 0, 0, 0, api.ErrLarge},
		{"28446744073709551615", 0, 0, 0, api.ErrLarge},
		{"18446744073709551616", 1, 8446744073709551616, 20, api.OK},
		{"١٨٤٤٦٧٤٤٠٧٣٧٠٩٥٥١٦١٥", 0, math.MaxUint64, 40, api.OK},
		{"١٨٤٤٦٧٤٤٠٧٣٧٠٩٥٥١٦١٦", 0, 0, 0, api.ErrLarge},
		{"184467440737095516150", 0, 0, 0, api.ErrLarge},
		{"18446744073709551615٦", 0, math.MaxUint64, 20, api.OK},
		{strings.Repeat("9", 5000), 0, 0, 0, api.ErrLarge},
		{strings.Repeat("0", 5000) + "18446744073709551615", 0, math.MaxUint64, 5020, api.OK},
		{strings.Repeat("0", 5000) + "18446744073709551616", 0, 0, 0, api.ErrLarge},
		{"", 0, 0, 0, api.ErrNone}, {"", 1, 0, 0, api.ErrArg}, {"", -1, 0, 0, api.ErrArg},
		{"1", -1, 0, 0, api.ErrArg}, {"1", 2, 0, 0, api.ErrArg}, {"1", math.MaxInt, 0, 0, api.ErrArg}, {"1", math.MinInt, 0, 0, api.ErrArg},
		{"x", 0, 0, 0, api.ErrNone}, {"-1", 0, 0, 0, api.ErrNone}, {" 1", 0, 0, 0, api.ErrNone}, {"₁", 0, 0, 0, api.ErrNone}, {"\xff1", 0, 0, 0, api.ErrNone},
		{"1 2", 0, 1, 1, api.OK}, {"1₂", 0, 1, 1, api.OK}, {"1x", 0, 1, 1, api.OK}, {"1\xff2", 0, 1, 1, api.OK}, {"1\xd9", 0, 1, 1, api.OK}, {"١\xd9", 0, 1, 2, api.OK},
	} {
		if n, end, e := runes.Number(c.s, c.at); n != c.n || end != c.end || e != c.e {
			t.Errorf("Number(%.40q, %d) = %d, %d, %d, want %d, %d, %d", c.s, c.at, n, end, e, c.n, c.end, c.e)
		}
	}
}

func TestNumberAtEveryPlace(t *testing.T) {
	texts(3, func(s string) {
		for at := -1; at <= len(s)+1; at++ {
			checkNumber(t, s, at)
		}
	})
}

func TestNumberAboutItsGreatest(t *testing.T) {
	greatest := new(big.Int).SetUint64(math.MaxUint64)
	for d := int64(-300); d <= 300; d++ {
		text := new(big.Int).Add(greatest, big.NewInt(d)).String()
		checkNumber(t, text, 0)
		checkNumber(t, inScript(text, 0x660)+"1", 0)
		checkNumber(t, inScript(text, 0xff10)+"٣", 0)
	}
	for n := 1; n < 60; n++ {
		for _, d := range "0123456789" {
			checkNumber(t, strings.Repeat(string(d), n), 0)
		}
	}
}

// inScript writes the digits of a text in the script whose digit 0 is zero.
func inScript(digits string, zero rune) string {
	return strings.Map(func(r rune) rune { return r - '0' + zero }, digits)
}

// checkNumber holds Number against numbers without bounds.
func checkNumber(t *testing.T, s string, at int) {
	t.Helper()
	wantN, wantEnd, want := numberAt(s, at)
	if n, end, e := runes.Number(s, at); n != wantN || end != wantEnd || e != want {
		t.Errorf("Number(%q, %d) = %d, %d, %d, want %d, %d, %d", s, at, n, end, e, wantN, wantEnd, want)
	}
}

func numberAt(s string, at int) (uint64, int, api.Errno) {
	if at < 0 || at > len(s) {
		return 0, 0, api.ErrArg
	}
	for _, zero := range []rune{'0', 0x660, 0xff10} {
		digits, end := "", at
		for end < len(s) {
			r, n := utf8.DecodeRuneInString(s[end:])
			if r < zero || r > zero+9 {
				break
			}
			digits, end = digits+string(r-zero+'0'), end+n
		}
		if digits == "" {
			continue
		}
		n, _ := new(big.Int).SetString(digits, 10)
		if !n.IsUint64() {
			return 0, 0, api.ErrLarge
		}
		return n.Uint64(), end, api.OK
	}
	return 0, 0, api.ErrNone
}

// P1.5

func TestColumn(t *testing.T) {
	for _, c := range []struct {
		s             string
		at, line, col int
		e             api.Errno
	}{
		{"é\nb", 0, 1, 1, api.OK},
		{"é\nb", 1, 1, 2, api.OK}, // inside a character
		{"é\nb", 2, 1, 2, api.OK}, // at the byte 10, which is not ahead
		{"é\nb", 3, 2, 1, api.OK},
		{"é\nb", 4, 2, 2, api.OK}, // the end
		{"é\nb", 5, 0, 0, api.ErrArg},
		{"é\nb", -1, 0, 0, api.ErrArg},
		{"é", 1, 1, 2, api.OK}, {"é", 2, 1, 2, api.OK},
		{"", 0, 1, 1, api.OK}, {"", 1, 0, 0, api.ErrArg}, {"", -1, 0, 0, api.ErrArg},
		{"a", math.MaxInt, 0, 0, api.ErrArg}, {"a", math.MinInt, 0, 0, api.ErrArg},
		{"a中b", 1, 1, 2, api.OK}, {"a中b", 2, 1, 3, api.OK}, {"a中b", 3, 1, 4, api.OK}, {"a中b", 4, 1, 3, api.OK},
		{"\U00010400", 3, 1, 4, api.OK}, {"\U00010400", 4, 1, 2, api.OK},
		{"\xff\xffa", 1, 1, 2, api.OK}, {"\xff\xffa", 2, 1, 3, api.OK}, {"\xff\xffa", 3, 1, 4, api.OK},
		{"\xe4\xb8\na", 3, 2, 1, api.OK}, {"\xe4\xb8\na", 2, 1, 3, api.OK},
		{"\n\n\n", 3, 4, 1, api.OK}, {"\n\n\n", 2, 3, 1, api.OK},
		{"a\r\nb\u2028c\u0085d", 4, 2, 2, api.OK}, {"a\r\nb\u2028c\u0085d", 11, 2, 6, api.OK}, {"\v\f\r", 3, 1, 4, api.OK},
	} {
		if line, col, e := runes.Column(c.s, c.at); line != c.line || col != c.col || e != c.e {
			t.Errorf("Column(%q, %d) = %d, %d, %d, want %d, %d, %d", c.s, c.at, line, col, e, c.line, c.col, c.e)
		}
	}
}

func TestColumnAtEveryPlace(t *testing.T) {
	texts(3, func(s string) {
		for at := -1; at <= len(s)+1; at++ {
			got := fmt.Sprintln(runes.Column(s, at))
			want := fmt.Sprintln(0, 0, api.ErrArg)
			if at >= 0 && at <= len(s) {
				behind := strings.LastIndexByte(s[:at], 10) + 1
				want = fmt.Sprintln(1+strings.Count(s[:at], "\n"), 1+len([]rune(s[behind:at])), api.OK)
			}
			if got != want {
				t.Errorf("Column(%q, %d) = %s, want %s", s, at, got, want)
			}
		}
	})
}

// P1.6

func TestOrder(t *testing.T) {
	for _, c := range []struct {
		s, t string
		want int
	}{
		{"a", "é", -1}, {"ab", "a", 1}, {"\xff", "\ufffd", 0}, {"\U00010400", "\uffff", 1},
		{"", "", 0}, {"", "a", -1}, {"", "\xff", -1}, {"abc", "abc", 0}, {"abc", "abd", -1}, {"b", "ab", 1}, {"Z", "a", -1},
		{"\xff", "中", 1}, {"\xff", "\U00010400", -1}, // a bad byte counts as U+FFFD
		{"\xff", "\ufffe", -1}, {"\xff", "\ufffc", 1}, {"\x80", "\xff", 0},
		{"\xff\xff", "\ufffd", 1}, {"\xff\xff", "\ufffd\ufffd", 0}, {"\xe4\xb8", "\ufffd\ufffd", 0}, {"\xe4\xb8", "\xff", 1},
		{"\xffa", "\ufffdb", -1}, {"a\xc3", "aé", 1}, {"a\x00", "a", 1},
	} {
		if got := runes.Order(c.s, c.t); got != c.want {
			t.Errorf("Order(%q, %q) = %d, want %d", c.s, c.t, got, c.want)
		}
		if got := runes.Order(c.t, c.s); got != -c.want {
			t.Errorf("Order(%q, %q) = %d, want %d", c.t, c.s, got, -c.want)
		}
	}
}

func TestOrderOfManyTexts(t *testing.T) {
	var all []string
	texts(2, func(s string) { all = append(all, s) })
	for _, a := range all {
		for _, b := range all {
			if got, want := runes.Order(a, b), slices.Compare([]rune(a), []rune(b)); got != want {
				t.Errorf("Order(%q, %q) = %d, want %d", a, b, got, want)
			}
		}
	}
}
