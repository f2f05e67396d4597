package env_test

import (
	"errors"
	"fmt"
	"maps"
	"math"
	"math/rand"
	"runtime"
	"slices"
	"strconv"
	"strings"
	"sync"
	"testing"

	"sorrel/api"
	"sorrel/arith"
	"sorrel/env"
	"sorrel/runes"
)

const (
	least    = math.MinInt64
	greatest = math.MaxInt64
)

// noNames are texts that are no names.
var noNames = []string{
	"", " ", "3", "3x", "٣", "９a", "₂x", "-", "a b", " a", "a ", "a=", "a,", "a-b", "a$", "$", "a\n", "=", ",", "\u2212a", "×", "a×",
	"abcdefghijklmnopq", strings.Repeat("é", 17), strings.Repeat("\U00010400", 17), "a" + strings.Repeat("₂", 16), strings.Repeat("x", 5000),
	"\xff", "a\xff", "\xffa", "a\xc3", "\xa9", "\ufffd", "a\ufffd", "a\xed\xa0\x80",
}

// goodNames are names, some of MaxName characters.
var goodNames = []string{
	"a", "_", "Z", "x₂", "größe3", "ж٣", "中９", "λ", "\U00010400", "a1", "A_b_C", "abcdefghijklmnop", strings.Repeat("é", 16), strings.Repeat("\U0001044f", 16), "a" + strings.Repeat("9", 15), "名" + strings.Repeat("₂", 15),
}

// binds is a list of a name and a number, and so on.
func binds(pairs ...any) []api.Bind {
	var out []api.Bind
	for i := 0; i < len(pairs); i += 2 {
		n, ok := pairs[i+1].(int64)
		if !ok {
			n = int64(pairs[i+1].(int))
		}
		out = append(out, api.Bind{Name: pairs[i].(string), N: n})
	}
	return out
}

// many is a list of so many names, v0 to .., with numbers from 0 down.
func many(count int) []api.Bind {
	var out []api.Bind
	for i := range count {
		out = append(out, api.Bind{Name: "v" + strconv.Itoa(i), N: int64(-i)})
	}
	return out
}

// same holds a list against another; an empty one may be nil.
func same(got, want []api.Bind) bool { return slices.Equal(got, want) }

// P7.1

// gets holds what Get answers against a number.
func gets(t *testing.T, list []api.Bind, name string, want int64) {
	t.Helper()
	if n := env.Get(list, name); n != want {
		t.Errorf("Get(%v, %q) = %d, want %d", list, name, n, want)
	}
}

func TestGet(t *testing.T) {
	list := binds("a", 1, "b", 2, "a", 3, "c", 0, "a", 0, "d", least, "é", greatest, "d", -1, "A", 8, "ab", 9)
	gets(t, list, "a", 0)
	gets(t, list[:4], "a", 3)
	gets(t, list[:2], "a", 1)
	gets(t, list, "b", 2)
	gets(t, list, "c", 0)
	gets(t, list, "d", -1)
	gets(t, list[:7], "d", least)
	gets(t, list, "é", greatest)
	gets(t, list, "A", 8)
	gets(t, list, "ab", 9)
	gets(t, list, "B", 0)
	gets(t, list, "abc", 0)
	gets(t, list, "e", 0)
	gets(t, list, "", 0)
}

func TestGetOfNothing(t *testing.T) {
	for _, name := range slices.Concat(goodNames, noNames) {
		gets(t, nil, name, 0)
		gets(t, []api.Bind{}, name, 0)
		gets(t, binds("other", 5, "another", 6), name, 0)
	}
}

// TestGetOfNoNames: any list is an environment; names are told apart by their bytes.
func TestGetOfNoNames(t *testing.T) {
	var list []api.Bind
	for i, s := range noNames {
		list = append(list, api.Bind{Name: s, N: int64(i + 1)}, api.Bind{Name: "x", N: 7})
	}
	for i, s := range noNames {
		gets(t, list, s, int64(i+1))
	}
	bytes := binds("\xff", 1, "\ufffd", 2, "\xfe", 3)
	gets(t, bytes, "\xff", 1)
	gets(t, bytes, "\ufffd", 2)
	gets(t, bytes, "\xfe", 3)
	gets(t, bytes, "\xfd", 0)
}

// TestGetOfLongLists: nothing bounds the list.
func TestGetOfLongLists(t *testing.T) {
	list := many(5000)
	for _, i := range []int{0, 1, 63, 64, 65, 4999} {
		gets(t, list, "v"+strconv.Itoa(i), int64(-i))
	}
	gets(t, append(list, binds("v0", 12)...), "v0", 12)
}

// P7.2

// sets holds what Set answers against a list.
func sets(t *testing.T, list []api.Bind, name string, n int64, want []api.Bind) {
	t.Helper()
	got, e := env.Set(list, name, n)
	if !same(got, want) || e != api.OK {
		t.Errorf("Set(%v, %q, %d) = %v, %d, want %v, 0", list, name, n, got, e, want)
	}
	if back := env.Get(got, name); back != n {
		t.Errorf("Set(%v, %q, %d): Get of it is %d", list, name, n, back)
	}
}

// setFails holds what Set answers against an error, beside which no list stands.
func setFails(t *testing.T, list []api.Bind, name string, want api.Errno) {
	t.Helper()
	for _, n := range []int64{0, 5, least} {
		if got, e := env.Set(list, name, n); len(got) != 0 || e != want {
			t.Errorf("Set(%d Binds, %q, %d) = %v, %d, want nothing, %d", len(list), name, n, got, e, want)
		}
	}
}

func TestSet(t *testing.T) {
	list := binds("a", 1, "b", 2, "a", 3, "c", 4)
	sets(t, list, "a", 9, binds("a", 1, "b", 2, "a", 9, "c", 4))
	sets(t, list, "b", 9, binds("a", 1, "b", 9, "a", 3, "c", 4))
	sets(t, list, "c", least, binds("a", 1, "b", 2, "a", 3, "c", int64(least)))
	sets(t, list, "d", greatest, binds("a", 1, "b", 2, "a", 3, "c", 4, "d", int64(greatest)))
	sets(t, list, "A", 0, binds("a", 1, "b", 2, "a", 3, "c", 4, "A", 0))
	sets(t, list, "ab", 5, binds("a", 1, "b", 2, "a", 3, "c", 4, "ab", 5))
	sets(t, list, "a", 3, list)
	sets(t, list, "a", 0, binds("a", 1, "b", 2, "a", 0, "c", 4))
	sets(t, binds("a", 1, "a", 2, "a", 3), "a", 4, binds("a", 1, "a", 2, "a", 4))
	for _, name := range goodNames {
		sets(t, nil, name, -3, binds(name, -3))
		sets(t, []api.Bind{}, name, -3, binds(name, -3))
		sets(t, binds("other", 1), name, 0, binds("other", 1, name, 0))
		sets(t, binds(name, 1, "other", 2), name, 5, binds(name, 5, "other", 2))
	}
}

// TestSetAmongNoNames: what the list holds need be no names.
func TestSetAmongNoNames(t *testing.T) {
	list := binds("", 1, "3", 2, "\xff", 3, "a b", 4)
	sets(t, list, "a", 5, binds("", 1, "3", 2, "\xff", 3, "a b", 4, "a", 5))
	list = append(list, binds("a", 6, "", 7)...)
	sets(t, list, "a", 5, binds("", 1, "3", 2, "\xff", 3, "a b", 4, "a", 5, "", 7))
}

func TestSetOfNoName(t *testing.T) {
	for _, name := range noNames {
		setFails(t, nil, name, api.ErrName)
		setFails(t, binds("a", 1), name, api.ErrName)
		setFails(t, binds("a", 1, name, 2), name, api.ErrName)
		// ErrName stands ahead of ErrLarge.
		setFails(t, many(64), name, api.ErrName)
		setFails(t, many(65), name, api.ErrName)
	}
}

func TestSetAtTheLimit(t *testing.T) {
	sets(t, many(62), "x", 5, append(many(62), binds("x", 5)...))
	sets(t, many(63), "x", 5, append(many(63), binds("x", 5)...))
	setFails(t, many(64), "x", api.ErrLarge)
	setFails(t, many(65), "x", api.ErrLarge)
	setFails(t, many(1000), "x", api.ErrLarge)
	// It is the Binds that count, however few names they have.
	setFails(t, slices.Repeat(binds("a", 1), 64), "x", api.ErrLarge)
	setFails(t, slices.Repeat(binds("", 1), 64), "x", api.ErrLarge)

	for _, count := range []int{63, 64, 65, 1000} {
		for _, at := range []int{0, 1, 62, count - 1} {
			want := many(count)
			want[at].N = 77
			sets(t, many(count), "v"+strconv.Itoa(at), 77, want)
		}
	}
	all := slices.Repeat(binds("a", 1), 64)
	want := slices.Clone(all)
	want[63].N = 2
	sets(t, all, "a", 2, want)
}

// P7.3

// reads holds what Read answers against a list.
func reads(t *testing.T, s string, want []api.Bind) {
	t.Helper()
	if got, at, e := env.Read(s); !same(got, want) || at != 0 || e != api.OK {
		t.Errorf("Read(%.80q) = %v, %d, %d, want %v, 0, 0", s, got, at, e, want)
	}
	agrees(t, s)
}

// refuses holds what Read answers against a fault, beside which no list stands.
func refuses(t *testing.T, s string, at int, want api.Errno) {
	t.Helper()
	if got, place, e := env.Read(s); len(got) != 0 || place != at || e != want {
		t.Errorf("Read(%.80q) = %v, %d, %d, want nothing, %d, %d", s, got, place, e, at, want)
	}
	agrees(t, s)
}

// agrees holds what Read answers against the second reckoning.
func agrees(t *testing.T, s string) {
	t.Helper()
	got, at, e := env.Read(s)
	want, place, f := read(s)
	if !same(got, want) || at != place || e != f {
		t.Errorf("Read(%.80q) = %v, %d, %d, by the second reckoning %v, %d, %d", s, got, at, e, want, place, f)
	}
}

// script writes the plain digits of a text in another script, whose digit 0 is nought.
func script(s string, nought rune) string {
	return strings.Map(func(r rune) rune {
		if r >= '0' && r <= '9' {
			return r - '0' + nought
		}
		return r
	}, s)
}

var noughts = []rune{'0', 0x660, 0xff10}

func TestRead(t *testing.T) {
	reads(t, "a=1", binds("a", 1))
	reads(t, "a=1,b=2", binds("a", 1, "b", 2))
	reads(t, "a=1, b=-2 ,c=0", binds("a", 1, "b", -2, "c", 0))
	reads(t, "größe3=12,x₂=\u22125,中９=٤٢", binds("größe3", 12, "x₂", -5, "中９", 42))
	reads(t, "b=1,a=2", binds("b", 1, "a", 2))
	// A name may stand twice.
	reads(t, "a=1,a=2", binds("a", 1, "a", 2))
	reads(t, "a=2,b=0,a=1,a=1", binds("a", 2, "b", 0, "a", 1, "a", 1))
	// Digits may belong to a name, and so they do.
	reads(t, "a1=2", binds("a1", 2))
	reads(t, "a٣=٤", binds("a٣", 4))
	for _, name := range goodNames {
		reads(t, name+"=7", binds(name, 7))
		reads(t, "a=1,"+name+"=7,"+name+"=8", binds("a", 1, name, 7, name, 8))
	}
}

func TestReadOfNothing(t *testing.T) {
	for _, s := range []string{"", " ", "  ", "\t", "\n", "\r", "\u00a0", "\u3000", " \t\n\r\u00a0\u3000 ", strings.Repeat(" ", 4096), strings.Repeat("\u3000", 1365)} {
		reads(t, s, nil)
	}
}

// TestReadBlanks has every blank, one and several, at every place at which one may stand, and at all of them.
func TestReadBlanks(t *testing.T) {
	pieces := []string{"é", "=", "-12", ",", "b₂", "=", "\u2212٣"}
	want := binds("é", -12, "b₂", -3)
	reads(t, strings.Join(pieces, ""), want)
	for _, blank := range []string{" ", "\t", "\n", "\r", "\u00a0", "\u3000", "  ", " \t\n\r\u00a0\u3000"} {
		reads(t, blank+strings.Join(pieces, blank)+blank, want)
		for i := range len(pieces) + 1 {
			reads(t, strings.Join(pieces[:i], "")+blank+strings.Join(pieces[i:], ""), want)
		}
	}
	// What other programs take for blanks are none.
	for _, no := range []string{"\v", "\f", "\u0085", "\u2003", "\u200b", "\ufeff", "\x00"} {
		refuses(t, no, 0, api.ErrText)
		refuses(t, no+"a=1", 0, api.ErrText)
		refuses(t, "a"+no+"=1", 1, api.ErrText)
		refuses(t, "a="+no+"1", 2, api.ErrText)
		refuses(t, "a=1"+no, 3, api.ErrText)
		refuses(t, "a=1,"+no+"b=2", 4, api.ErrText)
	}
	// A blank within a name or a number ends it.
	refuses(t, "a b=1", 2, api.ErrText)
	refuses(t, "a=1 2", 4, api.ErrText)
	refuses(t, "a=- 1", 2, api.ErrText)
	refuses(t, "a=\u2212\u30001", 2, api.ErrText)
}

func TestReadNumbers(t *testing.T) {
	for _, c := range []struct {
		s string
		n int64
	}{
		{"0", 0}, {"00", 0}, {"7", 7}, {"007", 7}, {"10", 10}, {"9876543210", 9876543210},
		{"9223372036854775806", greatest - 1}, {"9223372036854775807", greatest}, {"0009223372036854775807", greatest},
		{strings.Repeat("0", 300) + "5", 5}, {strings.Repeat("0", 1300), 0},
	} {
		for _, nought := range noughts {
			s := script(c.s, nought)
			reads(t, "a="+s, binds("a", c.n))
			reads(t, "b=1,a= "+s+" ,c=2", binds("b", 1, "a", c.n, "c", 2))
			for _, minus := range []string{"-", "\u2212"} {
				reads(t, "a="+minus+s, binds("a", -c.n))
				reads(t, "b=1,a= "+minus+s+" ,c=2", binds("b", 1, "a", -c.n, "c", 2))
			}
		}
	}
	for _, nought := range noughts {
		for _, s := range []string{"9223372036854775808", "00009223372036854775808"} {
			reads(t, "a=-"+script(s, nought), binds("a", int64(least)))
			reads(t, "a=\u2212"+script(s, nought), binds("a", int64(least)))
		}
	}
}

// TestReadLargeNumbers: the fault stands at the first digit, not at the minus.
func TestReadLargeNumbers(t *testing.T) {
	for _, nought := range noughts {
		for _, s := range []string{"9223372036854775809", "18446744073709551615", "18446744073709551616", "18446744073709551617", "27670116110564327424", "99999999999999999999", strings.Repeat("9", 4000/len(string(nought))), "009223372036854775809"} {
			s = script(s, nought)
			refuses(t, "a="+s, 2, api.ErrLarge)
			refuses(t, "a = "+s+" ", 4, api.ErrLarge)
			refuses(t, "a=-"+s, 3, api.ErrLarge)
			refuses(t, "a=\u2212"+s, 5, api.ErrLarge)
			refuses(t, "é=1, b=-"+s, 9, api.ErrLarge)
		}
		refuses(t, "a="+script("9223372036854775808", nought), 2, api.ErrLarge)
		refuses(t, "a="+script("0009223372036854775808", nought), 2, api.ErrLarge)
	}
}

// TestReadTwoScripts: a digit of another script ends a number, and may not stand there.
func TestReadTwoScripts(t *testing.T) {
	for _, one := range noughts {
		for _, other := range noughts {
			if one == other {
				continue
			}
			s := "a=" + script("12", one)
			refuses(t, s+script("3", other), len(s), api.ErrText)
			refuses(t, s+script("3", other)+",b=1", len(s), api.ErrText)
			refuses(t, s+" "+script("99999999999999999999", other), len(s)+1, api.ErrText)
			refuses(t, "a=-"+script("1", one)+script("2", other)+script("3", one), 3+len(string(one)), api.ErrText)
			// A name may have digits of several scripts.
			reads(t, "a"+script("12", one)+script("3", other)+"=1", binds("a"+script("12", one)+script("3", other), 1))
		}
	}
}

// TestReadLongNames has names of MaxName characters and of one more, ahead of what else may be at fault.
func TestReadLongNames(t *testing.T) {
	for _, char := range []string{"a", "é", "名", "\U00010400"} {
		for _, end := range []string{char, "1", "٣", "９", "₂"} {
			name := strings.Repeat(char, 15) + end
			reads(t, name+"=1", binds(name, 1))
			for _, more := range []string{char, "1", "₂", strings.Repeat(char, 100)} {
				for _, behind := range []string{"=1", "", "=", " ", "$", "=99999999999999999999", ",", "=1,", " b"} {
					refuses(t, name+more+behind, 0, api.ErrName)
					refuses(t, " "+name+more+behind, 1, api.ErrName)
					refuses(t, "a=1,\u3000"+name+more+behind, 7, api.ErrName)
				}
			}
		}
	}
}

// TestReadFaults has at each place what may not stand there; the end too.
func TestReadFaults(t *testing.T) {
	signs := []string{"(", ")", "+", "*", "/", ":", ";", "@", "<", "$", "!", ".", "\"", "₂", "×", "\u2261", "\u2010", "\u2013", "\uff0c", "\uff1d", "\u037e", "\ufffd", "\U0001f600"}
	for _, from := range []string{"", "a=1,", " a = -5 ,\t", "é=٣,é=٣, "} {
		for _, wrong := range append(signs, "1", "-1", "-", "\u2212", "=", ",", "٣", "99999999999999999999") {
			// Where a name had to stand.
			refuses(t, from+wrong, len(from), api.ErrText)
			refuses(t, from+" "+wrong+"a=1", len(from)+1, api.ErrText)
		}
		for _, wrong := range append(signs, "-", "-1", "\u2212", ",", "1", "٣", "b", "abcdefghijklmnopq", "99999999999999999999") {
			// Where = had to stand.
			refuses(t, from+"é "+wrong, len(from)+3, api.ErrText)
			refuses(t, from+"é\u3000"+wrong+"=1", len(from)+5, api.ErrText)
		}
		for _, wrong := range append(signs, "=", "==", ",", "b", "b=1", "-", "\u2212", "--1", "-\u22121", "- 1", "-a", "-,", "-$", "+1", "-(1)", "-\t", "abcdefghijklmnopq") {
			// Where a number had to stand.
			refuses(t, from+"é="+wrong, len(from)+3, api.ErrText)
			refuses(t, from+"é=\u3000"+wrong+", b=1", len(from)+6, api.ErrText)
		}
		for _, wrong := range append(signs, "=", "=1", "-", "-1", "\u2212", "b", "b=1", "_", "abcdefghijklmnopq", "٣", "９99999999999999999999") {
			// Where a comma or the end had to stand.
			refuses(t, from+"é=1"+wrong, len(from)+4, api.ErrText)
			refuses(t, from+"é=-1 "+wrong+",b=1", len(from)+6, api.ErrText)
		}
	}
}

// TestReadTooShort: the end is at fault where it stands, behind the blanks.
func TestReadTooShort(t *testing.T) {
	for _, s := range []string{"a", "a=", "a =", "é=1,", "a=1,b", "a=1,b=", "a=1,b=2,"} {
		for _, blank := range []string{"", " ", "\t\n", "\u3000"} {
			refuses(t, s+blank, len(s+blank), api.ErrText)
		}
	}
	for _, minus := range []string{"-", "\u2212"} {
		refuses(t, "a="+minus, 2, api.ErrText)
		refuses(t, "a= "+minus+" ", 3, api.ErrText)
		refuses(t, "a=1,b="+minus, 6, api.ErrText)
	}
}

func TestReadCommas(t *testing.T) {
	refuses(t, ",", 0, api.ErrText)
	refuses(t, " ,", 1, api.ErrText)
	refuses(t, ",a=1", 0, api.ErrText)
	refuses(t, "a=1,,b=2", 4, api.ErrText)
	refuses(t, "a=1, ,b=2", 5, api.ErrText)
	refuses(t, "a=1,b=2,,", 8, api.ErrText)
	refuses(t, "a,b=2", 1, api.ErrText)
	refuses(t, "a=,b=2", 2, api.ErrText)
	refuses(t, "a=1 b=2", 4, api.ErrText)
	refuses(t, "a=1;b=2", 3, api.ErrText)
	refuses(t, "a=1\nb=2", 4, api.ErrText)
}

// joined writes a list as plainly as Read takes it.
func joined(list []api.Bind, comma string) string {
	var out []string
	for _, b := range list {
		out = append(out, b.Name+"="+strconv.FormatInt(b.N, 10))
	}
	return strings.Join(out, comma)
}

func TestReadManyBindings(t *testing.T) {
	for _, comma := range []string{",", " , ", "\u3000,"} {
		for _, list := range [][]api.Bind{many(64), slices.Repeat(binds("a", 1), 64)} {
			reads(t, joined(list[:63], comma), list[:63])
			s := joined(list, comma)
			reads(t, s, list)
			reads(t, s+" ", list)
			// The comma behind is one too many, whatever follows.
			at := len(s) + strings.Index(comma, ",")
			for _, behind := range []string{"", " ", "x=1", "x", ",", "1", "$", "abcdefghijklmnopq=1", "x=99999999999999999999", "x=1,y=2"} {
				refuses(t, s+comma+behind, at, api.ErrLarge)
			}
			// What is no comma is not.
			refuses(t, s+" x", len(s)+1, api.ErrText)
			refuses(t, s+" =", len(s)+1, api.ErrText)
			refuses(t, s+"$,", len(s), api.ErrText)
			// Behind 63 bindings one comma may stand.
			s = joined(list[:63], comma)
			refuses(t, s+",", len(s)+1, api.ErrText)
			refuses(t, s+",,", len(s)+1, api.ErrText)
		}
	}
}

func TestReadLongTexts(t *testing.T) {
	blanks := strings.Repeat(" ", 5000)
	reads(t, blanks[:4096], nil)
	refuses(t, blanks[:4097], 0, api.ErrLong)
	reads(t, "a=1"+blanks[:4093], binds("a", 1))
	refuses(t, "a=1"+blanks[:4094], 0, api.ErrLong)
	reads(t, blanks[:4093]+"a=1", binds("a", 1))
	refuses(t, blanks[:4094]+"a=1", 0, api.ErrLong)
	reads(t, "a="+strings.Repeat("0", 4093)+"4", binds("a", 4))
	refuses(t, "a="+strings.Repeat("0", 4094)+"4", 0, api.ErrLong)
	// A place at the very end.
	refuses(t, "a=1,"+blanks[:4092], 4096, api.ErrText)
	refuses(t, blanks[:4095]+"$", 4095, api.ErrText)
	refuses(t, blanks[:4095]+"\xff", 4095, api.ErrUtf8)
	// ErrLong stands ahead of all others.
	for _, s := range []string{"\xff", "$", "a", "a=1,", ",", "a=99999999999999999999", strings.Repeat("b", 5000), strings.Repeat("\xff", 5000)} {
		refuses(t, s+blanks, 0, api.ErrLong)
		refuses(t, blanks+s, 0, api.ErrLong)
	}
	refuses(t, strings.Repeat("a", 4096), 0, api.ErrName)
	refuses(t, strings.Repeat("a=1,", 1024), 255, api.ErrLarge)
}

// TestReadBadBytes: a bad byte counts ahead of faults on its left; a U+FFFD that is written out is a character like others.
func TestReadBadBytes(t *testing.T) {
	for _, bad := range []string{"\xff", "\x80", "\xc3", "\xef\xbf", "\xed\xa0\x80", "\xc0\x80", "\xf4\x90\x80\x80"} {
		for _, from := range []string{"", "a", "a=", "a=1", "a=1,", "é=-", "é=1 ", "$", "=", "a b", "a=99999999999999999999", "abcdefghijklmnopq", "a=1,,", "\ufffd", strings.Repeat("a=1,", 70)} {
			refuses(t, from+bad, len(from), api.ErrUtf8)
			refuses(t, from+bad+"=1", len(from), api.ErrUtf8)
			refuses(t, from+bad+" $ \xff", len(from), api.ErrUtf8)
		}
	}
	refuses(t, "\ufffd=1", 0, api.ErrText)
	refuses(t, "a\ufffd=1", 1, api.ErrText)
}

// TestReadFirstFault: of two faults the left one counts, whatever they are.
func TestReadFirstFault(t *testing.T) {
	refuses(t, "a=99999999999999999999 $", 2, api.ErrLarge)
	refuses(t, "a=99999999999999999999b", 2, api.ErrLarge)
	refuses(t, "a=99999999999999999999٣", 2, api.ErrLarge)
	refuses(t, "a=9223372036854775808,,", 2, api.ErrLarge)
	refuses(t, "a=-99999999999999999999,1", 3, api.ErrLarge)
	refuses(t, "a=1,abcdefghijklmnopq=99999999999999999999", 4, api.ErrName)
	refuses(t, "abcdefghijklmnopq 1", 0, api.ErrName)
	refuses(t, "$ abcdefghijklmnopq=1", 0, api.ErrText)
	refuses(t, "a 99999999999999999999", 2, api.ErrText)
	refuses(t, "a abcdefghijklmnopq", 2, api.ErrText)
	refuses(t, "a=abcdefghijklmnopq", 2, api.ErrText)
	refuses(t, "a=1 abcdefghijklmnopq", 4, api.ErrText)
	refuses(t, "99999999999999999999=1", 0, api.ErrText)
	refuses(t, "a=-, b=99999999999999999999", 2, api.ErrText)
}

// everyText calls f with every text of up to most of the pieces.
func everyText(most int, pieces []string, f func(s string)) {
	var grow func(s string, left int)
	grow = func(s string, left int) {
		f(s)
		if left > 0 {
			for _, p := range pieces {
				grow(s+p, left-1)
			}
		}
	}
	grow("", most)
}

func TestReadOfEveryShortText(t *testing.T) {
	everyText(5, []string{"a", "1", "٣", "=", ",", "-", "\u2212", " ", "$"}, func(s string) { agrees(t, s) })
	everyText(4, []string{"é", "₂", "5", "９", "=", ",", "-", "\u3000", "9223372036854775808", "abcdefghijklmnopq", "a=1", "\ufffd", "\xff", "\xc3", "\xa9"}, func(s string) { agrees(t, s) })
	everyText(8, []string{"a", "=", "1", ","}, func(s string) { agrees(t, s) })
}

// TestReadOfRandomTexts: texts that are nearly right, of up to some more than MaxBinds bindings.
func TestReadOfRandomTexts(t *testing.T) {
	r := rand.New(rand.NewSource(73))
	pick := func(from ...string) string { return from[r.Intn(len(from))] }
	blanks := func() string { return pick("", "", "", " ", "\t ", "\u3000", "\u00a0\n") }
	right := [6]int{}
	for range 20000 {
		var s strings.Builder
		s.WriteString(blanks())
		count := r.Intn(5)
		if r.Intn(10) == 0 {
			count = 60 + r.Intn(8)
		}
		for i := range count {
			if i > 0 {
				s.WriteString("," + blanks())
			}
			s.WriteString(pick(goodNames[:12]...) + blanks() + "=" + blanks())
			n := strconv.FormatUint(r.Uint64()>>(r.Intn(64)+1), 10)
			s.WriteString(pick("", "-", "\u2212") + script(n, noughts[r.Intn(3)]) + blanks())
		}
		text := s.String()
		if r.Intn(2) == 0 { // one fault, somewhere
			at := r.Intn(len(text) + 1)
			to := min(len(text), at+r.Intn(3))
			text = text[:at] + pick("", "", ",", "=", "-", "\u2212", "a", "1", "٣", " ", "$", "\xff", "99999999999999999999", "abcdefghijklmnopq") + text[to:]
		}
		agrees(t, text)
		_, _, e := env.Read(text)
		right[min(int(e), 5)]++
	}
	if right[0] < 2000 || right[5] < 1000 {
		t.Errorf("the texts are of too few kinds: %v", right)
	}
}

// P7.4

// writes holds what Text answers against a text.
func writes(t *testing.T, list []api.Bind, want string) {
	t.Helper()
	if s, e := env.Text(list); s != want || e != api.OK {
		t.Errorf("Text(%v) = %q, %d, want %q, 0", list, s, e, want)
	}
}

// textFails holds what Text answers against an error, beside which no text stands.
func textFails(t *testing.T, list []api.Bind, want api.Errno) {
	t.Helper()
	if s, e := env.Text(list); s != "" || e != want {
		t.Errorf("Text of %d Binds = %q, %d, want nothing, %d", len(list), s, e, want)
	}
}

func TestText(t *testing.T) {
	writes(t, nil, "")
	writes(t, []api.Bind{}, "")
	writes(t, binds("a", 1), "a=1")
	writes(t, binds("a", 1, "b", -2), "a=1, b=-2")
	writes(t, binds("b", 0, "a", -0, "b", 10), "b=0, a=0, b=10")
	writes(t, binds("x₂", int64(least), "größe3", int64(greatest)), "x₂=-9223372036854775808, größe3=9223372036854775807")
	writes(t, binds("中９", -1000000, "\U00010400", 42), "中９=-1000000, \U00010400=42")
	for _, name := range goodNames {
		writes(t, binds(name, 7), name+"=7")
	}
}

func TestTextOfNoNames(t *testing.T) {
	for _, name := range noNames {
		textFails(t, binds(name, 1), api.ErrName)
		textFails(t, binds("a", 1, name, 2), api.ErrName)
		textFails(t, binds(name, 1, "a", 2), api.ErrName)
		textFails(t, binds("a", 1, name, 2, "a", 3), api.ErrName)
		// ErrName stands ahead of ErrLarge, wherever the name is.
		textFails(t, append(many(64), binds(name, 1)...), api.ErrName)
		textFails(t, append(many(200), binds(name, 1)...), api.ErrName)
		textFails(t, append(binds(name, 1), many(64)...), api.ErrName)
	}
}

func TestTextAtTheLimit(t *testing.T) {
	writes(t, many(63), joined(many(63), ", "))
	writes(t, many(64), joined(many(64), ", "))
	textFails(t, many(65), api.ErrLarge)
	textFails(t, many(1000), api.ErrLarge)
	textFails(t, slices.Repeat(binds("a", 1), 65), api.ErrLarge)
	writes(t, slices.Repeat(binds("a", 1), 64), joined(slices.Repeat(binds("a", 1), 64), ", "))

	// Text may be too long for Read, and is a text all the same.
	long := slices.Repeat(binds(strings.Repeat("\U00010400", 16), int64(least)), 64)
	s, e := env.Text(long)
	if want := joined(long, ", "); s != want || e != api.OK || len(s) != 64*85+63*2 {
		t.Errorf("Text of long names has %d bytes, %d", len(s), e)
	}
	refuses(t, s, 0, api.ErrLong)
}

// there writes a list and reads it back: P2.
func there(t *testing.T, list []api.Bind) {
	t.Helper()
	s, e := env.Text(list)
	if e != api.OK || s != joined(list, ", ") {
		t.Errorf("Text(%v) = %q, %d", list, s, e)
	}
	if len(s) <= 4096 {
		reads(t, s, list)
	}
}

// TestThereAndBack is P2 too: Read of Text is the list.
func TestThereAndBack(t *testing.T) {
	numbers := []int64{least, least + 1, -1 << 32, -10, -1, 0, 1, 9, 10, 1 << 32, greatest - 1, greatest}
	for _, n := range numbers {
		for _, name := range goodNames {
			there(t, binds(name, n))
		}
	}
	for count := range 65 {
		there(t, many(count))
	}
	r := rand.New(rand.NewSource(74))
	for range 3000 {
		var list []api.Bind
		for range r.Intn(65) {
			n := int64(r.Uint64()) >> r.Intn(64)
			list = append(list, api.Bind{Name: goodNames[r.Intn(len(goodNames))], N: n})
		}
		there(t, list)
	}
}

// P7.5

// Types that are defined by those whose values Of takes.
type (
	myInt64  int64
	myInt    int
	myRune   rune
	myBool   bool
	myString string
)

// alias is no type of its own.
type alias = int64

// otherKinds are values of types that Of does not take.
var otherKinds = []any{
	nil, myInt64(1), myInt(1), myRune('a'), myBool(true), myString("1"), api.Errno(0),
	int8(1), int16(1), uint(1), uint8(1), uint16(1), uint32(1), uint64(1), uintptr(1),
	1.0, 1.5, float32(1), math.NaN(), math.Inf(1), complex(1, 0), complex64(1),
	new(int64), new(string), (*int64)(nil), []int64{1}, []string(nil), []byte("1"), []rune{'1'}, [1]int64{1}, map[string]any{"a": 1}, map[string]any(nil),
	struct{}{}, struct{ N int64 }{1}, api.Lit{N: 1}, api.Bind{Name: "a", N: 1}, api.Term(api.Var{Name: "a"}), api.Term(nil),
	func() int64 { return 1 }, make(chan int64), errors.New("1"), error(nil),
}

// makes holds what Of answers against a list.
func makes(t *testing.T, values map[string]any, want []api.Bind) {
	t.Helper()
	if got, e := env.Of(values); !same(got, want) || e != api.OK {
		t.Errorf("Of(%.200v) = %v, %d, want %v, 0", values, got, e, want)
	}
	ofAgrees(t, values)
}

// ofFails holds what Of answers against an error, beside which no list stands.
func ofFails(t *testing.T, values map[string]any, want api.Errno) {
	t.Helper()
	if got, e := env.Of(values); len(got) != 0 || e != want {
		t.Errorf("Of(%.200v) = %v, %d, want nothing, %d", values, got, e, want)
	}
	ofAgrees(t, values)
}

// ofAgrees holds what Of answers against the second reckoning.
func ofAgrees(t *testing.T, values map[string]any) {
	t.Helper()
	got, e := env.Of(values)
	if want, f := of(values); !same(got, want) || e != f {
		t.Errorf("Of(%.200v) = %v, %d, by the second reckoning %v, %d", values, got, e, want, f)
	}
}

// two is a map of two keys.
func two(a string, v any, b string, w any) map[string]any { return map[string]any{a: v, b: w} }

func TestOfKinds(t *testing.T) {
	for _, c := range []struct {
		v any
		n int64
	}{
		{int64(5), 5}, {int64(0), 0}, {int64(-1), -1}, {int64(least), least}, {int64(greatest), greatest}, {alias(6), 6},
		{7, 7}, {-7, -7}, {math.MinInt, math.MinInt}, {math.MaxInt, math.MaxInt},
		{'x', 120}, {rune(-1), -1}, {'\U0010ffff', 0x10ffff}, {int32(math.MinInt32), math.MinInt32}, {int32(math.MaxInt32), math.MaxInt32},
		{true, 1}, {false, 0},
		{"0", 0}, {"-0", 0}, {"007", 7}, {"-7", -7}, {"\u22127", -7}, {"-٤٢", -42}, {"９", 9}, {"9223372036854775807", greatest}, {"-9223372036854775808", least}, {strings.Repeat("0", 4096), 0},
	} {
		makes(t, map[string]any{"a": c.v}, binds("a", c.n))
		makes(t, map[string]any{"z": c.v, "é": 1, "a": 2}, binds("a", 2, "z", c.n, "é", 1))
	}
}

func TestOfOtherKinds(t *testing.T) {
	for _, v := range otherKinds {
		ofFails(t, map[string]any{"a": v}, api.ErrKind)
		ofFails(t, map[string]any{"a": int64(1), "b": v, "c": "2"}, api.ErrKind)
	}
}

func TestOfTexts(t *testing.T) {
	for _, c := range []struct {
		s string
		e api.Errno
	}{
		{"", api.ErrText}, {"+7", api.ErrText}, {" 7", api.ErrText}, {"7 ", api.ErrText}, {"1٢", api.ErrText}, {"-", api.ErrText}, {"--1", api.ErrText}, {"x", api.ErrText}, {"true", api.ErrText}, {"1.5", api.ErrText}, {"\xff", api.ErrText}, {"1\xff", api.ErrText},
		{"99999999999999999999x", api.ErrText},
		{"9223372036854775808", api.ErrLarge}, {"-9223372036854775809", api.ErrLarge}, {strings.Repeat("9", 4096), api.ErrLarge},
		{strings.Repeat("0", 4097), api.ErrLong}, {strings.Repeat("x", 4097), api.ErrLong},
	} {
		ofFails(t, map[string]any{"a": c.s}, c.e)
		ofFails(t, map[string]any{"a": 1, "b": c.s, "c": 2}, c.e)
		if _, e := arith.Read(c.s); e != c.e {
			t.Errorf("arith.Read(%.40q) answers %d", c.s, e)
		}
	}
}

// TestOfSorts: the keys stand by their characters' numbers, which is not the order of their cases, lengths or first bytes alone.
func TestOfSorts(t *testing.T) {
	makes(t, nil, nil)
	makes(t, map[string]any{}, nil)
	makes(t, map[string]any{"b": 1, "a": 2, "c": 3}, binds("a", 2, "b", 1, "c", 3))
	makes(t, map[string]any{"b": 1, "ab": 2, "B": 3, "a": 4, "_": 5, "abc": 6, "a₂": 7, "a2": 8, "a10": 9, "é": 10, "z": 11, "中": 12, "\U00010400": 13, "ж": 14, "ab٣": 15},
		binds("B", 3, "_", 5, "a", 4, "a10", 9, "a2", 8, "ab", 2, "abc", 6, "ab٣", 15, "a₂", 7, "b", 1, "z", 11, "é", 10, "ж", 14, "中", 12, "\U00010400", 13))
	for count := range 65 {
		values := map[string]any{}
		for _, b := range many(count) {
			values[b.Name] = b.N
		}
		list, e := env.Of(values)
		if e != api.OK || len(list) != count || !slices.IsSortedFunc(list, func(a, b api.Bind) int { return runes.Order(a.Name, b.Name) }) {
			t.Errorf("Of of %d keys: %v, %d", count, list, e)
		}
		ofAgrees(t, values)
	}
}

func TestOfNoNames(t *testing.T) {
	for _, name := range noNames {
		for _, v := range []any{1, int64(1), 'a', true, "1", nil, 1.5, "99999999999999999999"} {
			ofFails(t, map[string]any{name: v}, api.ErrName)
			ofFails(t, map[string]any{name: v, name + "\x00": 1}, api.ErrName)
		}
		ofFails(t, map[string]any{name: 1, "m": 1}, api.ErrName)
	}
}

// TestOfFirstKey: the first key at fault counts, whatever its error is.
func TestOfFirstKey(t *testing.T) {
	values := map[api.Errno]any{api.ErrKind: 1.5, api.ErrText: "+7", api.ErrLarge: "99999999999999999999", api.ErrLong: strings.Repeat("1", 4097)}
	for e, v := range values {
		for f, w := range values {
			ofFails(t, two("a", v, "b", w), e)
			ofFails(t, two("é", v, "b", w), f)
			ofFails(t, map[string]any{"a": 1, "b": v, "c": 2, "ж": w}, e)
		}
		// A no name ahead of the key, and behind it.
		ofFails(t, two("a", v, "3", 1), api.ErrName)
		ofFails(t, two("a", v, "", 1), api.ErrName)
		ofFails(t, two("a", v, "a b", 1), e)
		ofFails(t, two("a", v, "\xff", 1), e)
		ofFails(t, two("\U00010400", v, "\xff", 1), api.ErrName)
		ofFails(t, two("\U00010400", v, "中 ", 1), api.ErrName)
	}
	// The first key is not at fault, and so the second counts.
	ofFails(t, two("a", 1, "b", "x"), api.ErrText)
	ofFails(t, two("a", 1, "b ", 2), api.ErrName)
}

// TestOfBothAtFault: of a key and its value the error counts that stands first in R2's row.
func TestOfBothAtFault(t *testing.T) {
	for _, name := range []string{"", "3", "a b", "\xff", "abcdefghijklmnopq"} {
		ofFails(t, map[string]any{name: strings.Repeat("1", 4097)}, api.ErrLong)
		ofFails(t, map[string]any{name: "+7"}, api.ErrText)
		ofFails(t, map[string]any{name: ""}, api.ErrText)
		ofFails(t, map[string]any{name: 1.5}, api.ErrName)
		ofFails(t, map[string]any{name: nil}, api.ErrName)
		ofFails(t, map[string]any{name: "9223372036854775808"}, api.ErrName)
	}
}

// TestOfBytes: keys of which Order says 0 stand by their bytes.
func TestOfBytes(t *testing.T) {
	// All of them are U+FFFD to Order, and no names; by what is at fault beside them it is to be seen which one came first.
	keys := []string{"\x80", "\xc3", "\xef\xbf\xbd", "\xfe", "\xff"}
	for i, first := range keys {
		for _, second := range keys[i+1:] {
			if runes.Order(first, second) != 0 {
				t.Errorf("Order(%q, %q) is not 0", first, second)
			}
			for range 20 {
				ofFails(t, two(first, "+7", second, 1), api.ErrText)
				ofFails(t, two(first, 1, second, "+7"), api.ErrName)
				ofFails(t, two("a"+first, "+7", "a"+second, nil), api.ErrText)
				ofFails(t, two("a"+first, 1.5, "a"+second, "x"), api.ErrName)
			}
		}
	}
}

// TestOfManyKeys: ErrLarge counts ahead of all that is at fault with keys and values.
func TestOfManyKeys(t *testing.T) {
	values := func(count int, v any) map[string]any {
		out := map[string]any{}
		for _, b := range many(count) {
			out[b.Name] = v
		}
		return out
	}
	for _, v := range []any{1, "1", nil, "+7", strings.Repeat("1", 4097), "99999999999999999999"} {
		ofFails(t, values(65, v), api.ErrLarge)
		ofFails(t, values(1000, v), api.ErrLarge)
		with := values(64, v)
		with[""] = nil
		ofFails(t, with, api.ErrLarge)
	}
	if got, e := env.Of(values(64, true)); len(got) != 64 || e != api.OK {
		t.Errorf("Of of 64 keys: %d Binds, %d", len(got), e)
	}
	ofFails(t, values(64, nil), api.ErrKind)
	ofFails(t, values(64, "x"), api.ErrText)
}

// TestOfRandomMaps: each map is asked many times over, since the language gives its keys in another order each time.
func TestOfRandomMaps(t *testing.T) {
	r := rand.New(rand.NewSource(75))
	good := []any{int64(1), 2, 'c', true, false, "4", "-٣"}
	wrong := []any{nil, 1.5, uint8(1), "", "x", "9223372036854775808", strings.Repeat("1", 4097), myInt64(1)}
	names := slices.Concat(goodNames, []string{"b", "c", "d", "e", "aa", "ab", "B", "é", "éa", "ж", "жж", "名"})
	for range 3000 {
		values := map[string]any{}
		for range r.Intn(12) {
			values[names[r.Intn(len(names))]] = good[r.Intn(len(good))]
		}
		for range max(0, r.Intn(5)-1) {
			values[names[r.Intn(len(names))]] = wrong[r.Intn(len(wrong))]
		}
		for range max(0, r.Intn(5)-2) {
			values[noNames[r.Intn(len(noNames))]] = slices.Concat(good, wrong)[r.Intn(len(good)+len(wrong))]
		}
		for range 5 {
			ofAgrees(t, values)
		}
	}
}

// P7.6

func TestMust(t *testing.T) {
	for _, n := range []int64{0, 1, -1, 7, least, greatest, alias(5)} {
		if got := env.Must(n); got != n {
			t.Errorf("Must(%d) = %d", n, got)
		}
	}
}

// panicOf is what Must panics with; nil, if it does not.
func panicOf(v any) (out any) {
	defer func() { out = recover() }()
	env.Must(v)
	return nil
}

func TestMustPanics(t *testing.T) {
	others := slices.Concat(otherKinds, []any{7, 'x', true, false, "7", ""})
	for _, v := range others {
		out := panicOf(v)
		err, ok := out.(runtime.Error)
		if !ok {
			t.Errorf("Must(%T) panics with %v", v, out)
			continue
		}
		var assertion *runtime.TypeAssertionError
		if !errors.As(err, &assertion) {
			t.Errorf("Must(%T) panics with %T", v, out)
		}
		// It is what the language's own assertion panics with.
		want := func() (out any) {
			defer func() { out = recover() }()
			return v.(int64)
		}()
		if fmt.Sprint(out) != fmt.Sprint(want) {
			t.Errorf("Must(%T) panics with %v, want %v", v, out, want)
		}
	}
}

// The rules that hold for all calls

// roomy is a copy of a list with spare room behind it that holds something.
func roomy(list []api.Bind) []api.Bind {
	return append(slices.Clone(list), binds("spare", 71, "room", 72, "", 73)...)[:len(list)]
}

// cells has the address of every element that a list holds, spare room too.
func cells(list []api.Bind) []*api.Bind {
	var out []*api.Bind
	for i := range list[:cap(list)] {
		out = append(out, &list[:cap(list)][i])
	}
	return out
}

// apart tells whether no two of the lists share an element, spare room too.
func apart(lists ...[]api.Bind) bool {
	seen := map[*api.Bind]int{}
	for i, l := range lists {
		for _, c := range cells(l) {
			if j, ok := seen[c]; ok && j != i {
				return false
			}
			seen[c] = i
		}
	}
	return true
}

// answers are all calls of a list, in one text each.
func answers(list []api.Bind) []string {
	var out []string
	for _, name := range []string{"a", "b", "x", "", "3", "\xff"} {
		set, e := env.Set(list, name, 9)
		out = append(out, fmt.Sprint(env.Get(list, name), set, e))
	}
	s, e := env.Text(list)
	return append(out, fmt.Sprint(s, e))
}

// TestHandedInStays: no call changes a list, its spare room, or a map, with an error or without; and what is answered may be changed without harm.
func TestHandedInStays(t *testing.T) {
	for _, list := range [][]api.Bind{nil, {}, binds("a", 1), binds("a", 1, "b", 2, "a", 3), binds("3", 1, "a", 2), many(63), many(64), many(65)} {
		with := roomy(list)
		before := slices.Clone(with[:cap(with)])
		first := answers(with)
		if !slices.Equal(with[:cap(with)], before) {
			t.Errorf("%d Binds became %v", len(list), with[:cap(with)])
		}
		if again := answers(with); !slices.Equal(first, again) {
			t.Errorf("%d Binds: %v, then %v", len(list), first, again)
		}
		for _, name := range []string{"a", "v5", "x"} {
			one, _ := env.Set(with, name, 9)
			other, _ := env.Set(with, name, 9)
			if !apart(with, one, other) {
				t.Errorf("Set(%d Binds, %q): the answers share memory", len(list), name)
			}
			for _, c := range cells(one) {
				*c = api.Bind{Name: "changed", N: 99}
			}
			if again, _ := env.Set(with, name, 9); !same(again, other) || !slices.Equal(with[:cap(with)], before) {
				t.Errorf("Set(%d Binds, %q) is another once an answer is changed", len(list), name)
			}
		}
	}
}

func TestAnswersOfTheirOwn(t *testing.T) {
	for _, s := range []string{"a=1", "a=1,b=-2, a=3", joined(many(64), ",")} {
		one, _, _ := env.Read(s)
		other, _, _ := env.Read(s)
		if !apart(one, other) || !same(one, other) {
			t.Errorf("Read(%.40q): the answers share memory, or differ", s)
		}
		clear(one[:cap(one)])
		if again, _, _ := env.Read(s); !same(again, other) {
			t.Errorf("Read(%.40q) = %v once an answer is changed", s, again)
		}
	}
	values := map[string]any{"a": 1, "b": "2", "c": true, "ж": 'x'}
	before := maps.Clone(values)
	one, _ := env.Of(values)
	other, _ := env.Of(values)
	if !apart(one, other) || !same(one, other) {
		t.Errorf("Of: the answers share memory, or differ")
	}
	clear(one[:cap(one)])
	if again, _ := env.Of(values); !same(again, other) || !maps.Equal(values, before) {
		t.Errorf("Of = %v of %v once an answer is changed", again, values)
	}
	// A map that is changed changes no answer that was given.
	values["a"] = 5
	delete(values, "b")
	if !same(other, binds("a", 1, "b", 2, "c", 1, "ж", 120)) {
		t.Errorf("an answer of Of became %v", other)
	}
}

// TestMapStays: with an error too, a map keeps its keys and values.
func TestMapStays(t *testing.T) {
	for _, values := range []map[string]any{nil, {}, {"a": nil}, {"": 1, "a": "x"}, {"a": 1.5, "b": "99999999999999999999"}} {
		before := maps.Clone(values)
		_, e := env.Of(values)
		if !maps.Equal(values, before) {
			t.Errorf("%v became %v, beside %d", before, values, e)
		}
	}
}

// TestSideBySide: nothing is kept from call to call, so that calls do not disturb each other.
func TestSideBySide(t *testing.T) {
	list := roomy(binds("a", 1, "b", 2, "a", 3))
	values := map[string]any{"a": 1, "b": "-2", "é": true, "3": nil}
	ask := func() string {
		read, at, e := env.Read("a = 1, b=\u2212٢ ,é=5")
		fault, place, f := env.Read("a = 1, b=- 2")
		of, g := env.Of(values)
		return fmt.Sprint(read, at, e, fault, place, f, of, g, answers(list), env.Must(int64(5)), panicOf("5"))
	}
	want := ask()
	var wait sync.WaitGroup
	for range 8 {
		wait.Go(func() {
			for range 100 {
				if got := ask(); got != want {
					t.Errorf("%s, want %s", got, want)
				}
			}
		})
	}
	wait.Wait()
}

// The chapter's examples

func TestExamples(t *testing.T) {
	list := binds("a", 1, "b", 2, "a", 3)
	gets(t, list, "a", 3)
	gets(t, list, "c", 0)

	sets(t, list, "a", 9, binds("a", 1, "b", 2, "a", 9))
	sets(t, []api.Bind{}, "x", 1, binds("x", 1))
	setFails(t, []api.Bind{}, "3", api.ErrName)

	reads(t, "a = 1, b=−٢", binds("a", 1, "b", -2))
	reads(t, "", nil)
	reads(t, "  ", nil)
	refuses(t, "a=1,", 4, api.ErrText)
	refuses(t, "a 1", 2, api.ErrText)
	refuses(t, "a=- 1", 2, api.ErrText)
	refuses(t, "a=1 b=2", 4, api.ErrText)
	refuses(t, "a=9223372036854775808", 2, api.ErrLarge)

	writes(t, binds("a", 1, "b", -2), "a=1, b=-2")
	writes(t, []api.Bind{}, "")

	makes(t, map[string]any{"a": int64(5), "b": true, "c": "-7", "d": 'x'}, binds("a", 5, "b", 1, "c", -7, "d", 120))
	ofFails(t, map[string]any{"a": 1.5}, api.ErrKind)
	ofFails(t, map[string]any{"c": "+7"}, api.ErrText)
}
