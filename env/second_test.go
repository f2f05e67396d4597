package env_test

import (
	"cmp"
	"math/big"
	"regexp"
	"slices"
	"strings"
	"unicode/utf8"

	"sorrel/api"
)

// The second reckoning: tokens and names by regular expressions, numbers without any bound, errors by the row of R2.

const (
	letters = `a-zA-Z_\x{c0}-\x{d6}\x{d8}-\x{f6}\x{f8}-\x{24f}\x{370}-\x{37d}\x{37f}-\x{386}\x{388}-\x{481}\x{48a}-\x{52f}\x{4e00}-\x{9fff}\x{10400}-\x{1044f}`
	further = letters + `0-9\x{660}-\x{669}\x{ff10}-\x{ff19}\x{2080}-\x{2089}`
	minuses = `[-\x{2212}]?`
	digits  = `([0-9]+|[\x{660}-\x{669}]+|[\x{ff10}-\x{ff19}]+)`
)

var (
	nameForm   = regexp.MustCompile(`^[` + letters + `][` + further + `]{0,15}$`)
	numberForm = regexp.MustCompile(`^` + minuses + digits + `$`)

	// tokens: blanks, a name of any length, a number with its minus, or one character.
	tokens = regexp.MustCompile(`(?s)([ \t\n\r\x{a0}\x{3000}]+)|([` + letters + `][` + further + `]*)|(` + minuses + digits + `)|.`)
)

// isName tells names. The bad byte is asked for by itself: a regular expression takes it for U+FFFD.
func isName(s string) bool { return utf8.ValidString(s) && nameForm.MatchString(s) }

// plain writes what stands for a digit or a minus as the plain one.
func plain(r rune) rune {
	switch {
	case r >= 0x660 && r <= 0x669:
		return r - 0x660 + '0'
	case r >= 0xff10 && r <= 0xff19:
		return r - 0xff10 + '0'
	case r == 0x2212:
		return '-'
	}
	return r
}

// valueOf is the number that a text of the right form writes.
func valueOf(s string) *big.Int {
	n, _ := new(big.Int).SetString(strings.Map(plain, s), 10)
	return n
}

// badByte is the place of the first bad byte; -1, if there is none.
func badByte(s string) int {
	for at := 0; at < len(s); {
		r, n := utf8.DecodeRuneInString(s[at:])
		if r == utf8.RuneError && n == 1 {
			return at
		}
		at += n
	}
	return -1
}

// read is what Read must answer.
func read(s string) ([]api.Bind, int, api.Errno) {
	if len(s) > 4096 {
		return nil, 0, api.ErrLong
	}
	if at := badByte(s); at >= 0 {
		return nil, at, api.ErrUtf8
	}
	var found []string
	var places []int
	for _, m := range tokens.FindAllStringSubmatchIndex(s, -1) {
		if m[2] < 0 {
			found, places = append(found, s[m[0]:m[1]]), append(places, m[0])
		}
	}
	if len(found) == 0 {
		return nil, 0, api.OK
	}
	found, places = append(found, ""), append(places, len(s))
	var out []api.Bind
	for i, token := range found {
		if past, e := judge(i, token); e != api.OK {
			return nil, places[i] + past, e
		}
		if i%4 == 3 {
			out = append(out, api.Bind{Name: found[i-3], N: valueOf(found[i-1]).Int64()})
		}
	}
	return out, 0, api.OK
}

// judge is the fault of the token number i, the end being the empty one, and how far behind the token's beginning it stands.
func judge(i int, token string) (int, api.Errno) {
	r, _ := utf8.DecodeRuneInString(token)
	switch i % 4 {
	case 0:
		if !isName(string(r)) {
			return 0, api.ErrText
		}
		if utf8.RuneCountInString(token) > 16 {
			return 0, api.ErrName
		}
	case 1:
		if token != "=" {
			return 0, api.ErrText
		}
	case 2:
		if !numberForm.MatchString(token) {
			return 0, api.ErrText
		}
		if !valueOf(token).IsInt64() {
			return strings.IndexFunc(token, func(r rune) bool { return plain(r) != '-' }), api.ErrLarge
		}
	case 3:
		if token != "," && token != "" {
			return 0, api.ErrText
		}
		if token == "," && i == 4*64-1 {
			return 0, api.ErrLarge
		}
	}
	return 0, api.OK
}

// number is what Of must make of one value.
func number(v any) (int64, api.Errno) {
	switch x := v.(type) {
	case int64:
		return x, api.OK
	case int:
		return int64(x), api.OK
	case int32:
		return int64(x), api.OK
	case bool:
		return map[bool]int64{true: 1}[x], api.OK
	case string:
		switch {
		case len(x) > 4096:
			return 0, api.ErrLong
		case !numberForm.MatchString(x):
			return 0, api.ErrText
		case !valueOf(x).IsInt64():
			return 0, api.ErrLarge
		}
		return valueOf(x).Int64(), api.OK
	}
	return 0, api.ErrKind
}

// of is what Of must answer.
func of(values map[string]any) ([]api.Bind, api.Errno) {
	if len(values) > 64 {
		return nil, api.ErrLarge
	}
	var keys []string
	for k := range values {
		keys = append(keys, k)
	}
	slices.SortFunc(keys, func(s, t string) int {
		return cmp.Or(slices.Compare([]rune(s), []rune(t)), slices.Compare([]byte(s), []byte(t)))
	})
	var out []api.Bind
	for _, k := range keys {
		n, e := number(values[k])
		errs := []api.Errno{e}
		if !isName(k) {
			errs = append(errs, api.ErrName)
		}
		for _, e := range []api.Errno{api.ErrLong, api.ErrText, api.ErrName, api.ErrKind, api.ErrLarge} {
			if slices.Contains(errs, e) {
				return nil, e
			}
		}
		out = append(out, api.Bind{Name: k, N: n})
	}
	return out, api.OK
}
