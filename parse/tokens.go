package parse

import (
	"math"
	"strings"
	"unicode/utf8"

	"sorrel/api"
	"sorrel/runes"
)

// The kinds of a character, as runes.Kind numbers them.
const (
	letter = iota + 1
	digit
	blank
	sign
)

// What a token is, is told by one rune: of a sign the ASCII character that writes it, or, where that takes two, the other character that does.
const (
	end        rune = 0
	name       rune = 'a'
	number     rune = '0'
	equal      rune = 0x2261 // ==
	shiftLeft  rune = 0x226a // <<
	shiftRight rune = 0x226b // >>
)

// token is what stands in a text from one place to another; n is a number's.
type token struct {
	what     rune
	from, to int
	n        uint64
	err      api.Errno // what a name or a number is at fault with; the grammar asks for it where it takes one, for ErrText stands ahead of it
}

// tokens reads a text token by token: no further than the grammar comes, for a fault behind that does not count.
type tokens struct {
	text    string
	pattern bool // holes may stand in it
	now     token
}

// open is ahead of the first token of a text.
func open(s string, pattern bool) tokens {
	if len(s) > api.MaxText {
		panic(fault{0, api.ErrLong})
	}
	if at, bad := runes.Check(s); bad != api.OK {
		panic(fault{at, bad})
	}
	return tokens{text: s, pattern: pattern}
}

// next goes on to the next token.
func (t *tokens) next() { t.nextUpTo(math.MaxInt64) }

// nextUpTo goes on to the next token; a number is at fault above most.
func (t *tokens) nextUpTo(most uint64) {
	behind := t.now.to
	for i, r := range t.text[behind:] {
		if runes.Kind(r) != blank {
			t.now = t.at(behind+i, r, most)
			return
		}
	}
	t.now = token{what: end, from: len(t.text), to: len(t.text)}
}

// at is the token that begins at a place, with the character r.
func (t *tokens) at(from int, r rune, most uint64) token {
	switch runes.Kind(r) {
	case letter:
		found := token{what: name, from: from}
		found.to, _ = runes.Span(t.text, from)
		if !runes.Name(t.text[from:found.to]) {
			found.err = api.ErrName
		}
		return found
	case digit:
		found := token{what: number, from: from}
		found.n, found.to, found.err = runes.Number(t.text, from)
		if found.n > most {
			found.err = api.ErrLarge
		}
		return found
	case sign:
		if what, size := t.signAt(from, r); size > 0 {
			return token{what: what, from: from, to: from + size}
		}
	}
	panic(fault{from, api.ErrRune})
}

// signAt is the sign that begins at a place with the character r, and how many bytes write it; 0, if it is none of the grammar's.
func (t *tokens) signAt(from int, r rune) (rune, int) {
	switch rest := t.text[from:]; {
	case strings.HasPrefix(rest, "=="):
		return equal, 2
	case strings.HasPrefix(rest, "<<"):
		return shiftLeft, 2
	case strings.HasPrefix(rest, ">>"):
		return shiftRight, 2
	}
	switch r {
	case '=', '>', ';', ',':
		return 0, 0
	case '@':
		if !t.pattern {
			return 0, 0
		}
	}
	return plain(r), utf8.RuneLen(r)
}

// plain is the sign that a character writes.
func plain(r rune) rune {
	switch r {
	case 0x2212:
		return '-'
	case 0x00d7, 0x00b7:
		return '*'
	case 0x00f7:
		return '/'
	case 0x00ac:
		return '~'
	case 0x2227:
		return '&'
	case 0x2228:
		return '|'
	case 0x2295:
		return '^'
	}
	return r
}

// touches tells whether a number stands right behind the token, without a blank between.
func (t *tokens) touches() bool {
	_, _, bad := runes.Number(t.text, t.now.to)
	return bad != api.ErrNone
}
