// Package runes is layer 1: characters, names and numbers in a text, in several scripts. See shared/doc/01-runes.md.
package runes

import (
	"cmp"
	"math"
	"unicode/utf8"

	"sorrel/api"
)

// The kinds of a character; 0 is every rune that has none of them.
const (
	letter = iota + 1
	digit
	blank
	sign
	index
)

// span is a row of runes of one kind; one of digits is a script's ten, the digit 0 first.
type span struct {
	first, last rune
	kind        int
}

// spans has no two that overlap, so that the order in which they stand does not matter.
var spans = [...]span{
	{'a', 'z', letter},
	{'A', 'Z', letter},
	{'_', '_', letter},
	{0x00c0, 0x00d6, letter},
	{0x00d8, 0x00f6, letter},
	{0x00f8, 0x024f, letter},
	{0x0370, 0x037d, letter},
	{0x037f, 0x0386, letter},
	{0x0388, 0x03ff, letter},
	{0x0400, 0x0481, letter},
	{0x048a, 0x052f, letter},
	{0x4e00, 0x9fff, letter},
	{0x10400, 0x1044f, letter},

	{'0', '9', digit},
	{0x0660, 0x0669, digit},
	{0xff10, 0xff19, digit},

	{0x0009, 0x000a, blank},
	{0x000d, 0x000d, blank},
	{0x0020, 0x0020, blank},
	{0x00a0, 0x00a0, blank},
	{0x3000, 0x3000, blank},

	{'%', '&', sign},
	{'(', '-', sign}, // ( ) * + , -
	{'/', '/', sign},
	{':', '@', sign}, // : ; < = > ? @
	{'^', '^', sign},
	{'|', '|', sign},
	{'~', '~', sign},
	{0x00ac, 0x00ac, sign},
	{0x00b7, 0x00b7, sign},
	{0x00d7, 0x00d7, sign},
	{0x00f7, 0x00f7, sign},
	{0x2212, 0x2212, sign},
	{0x2227, 0x2228, sign},
	{0x2261, 0x2261, sign},
	{0x226a, 0x226b, sign},
	{0x2295, 0x2295, sign},

	{0x2080, 0x2089, index},
}

// has tells whether r stands in the span.
func (p span) has(r rune) bool { return p.first <= r && r <= p.last }

// spanOf is the span of r, or one of kind 0.
func spanOf(r rune) span {
	for i := range spans {
		if spans[i].has(r) {
			return spans[i]
		}
	}
	return span{}
}

// Check: the place of the first byte that belongs to no character.
func Check(s string) (int, api.Errno) {
	for i, r := range s {
		if r == utf8.RuneError && width(s[i:]) == 1 {
			return i, api.ErrUtf8
		}
	}
	return 0, api.OK
}

// width tells a bad byte from a U+FFFD that is written out: a range gives the same rune for both.
func width(s string) int {
	_, n := utf8.DecodeRuneInString(s)
	return n
}

// Kind: what a character is in a text.
func Kind(r rune) int { return spanOf(r).kind }

// goesOn tells whether r may stand in a name behind its first letter. U+FFFD may not, so no bad byte does.
func goesOn(r rune) bool {
	k := Kind(r)
	return k == letter || k == digit || k == index
}

// Name: is s a name?
func Name(s string) bool {
	count := 0
	for i, r := range s {
		if i == 0 && Kind(r) != letter || !goesOn(r) || count == api.MaxName {
			return false
		}
		count++
	}
	return count > 0
}

// outside tells whether at is no place of s; the place behind its last byte is one.
func outside(s string, at int) bool { return at < 0 || at > len(s) }

// Span: where the longest name ends that begins at a place, however long it is.
func Span(s string, at int) (int, api.Errno) {
	if outside(s, at) {
		return 0, api.ErrArg
	}
	if Kind(first(s[at:])) != letter {
		return 0, api.ErrNone
	}
	for i, r := range s[at:] {
		if !goesOn(r) {
			return at + i, api.OK
		}
	}
	return len(s), api.OK
}

// first is the rune with which s begins: U+FFFD, which has no kind, where no character does.
func first(s string) rune {
	r, _ := utf8.DecodeRuneInString(s)
	return r
}

// Number: the number that begins at a place, and where it ends.
func Number(s string, at int) (uint64, int, api.Errno) {
	if outside(s, at) {
		return 0, 0, api.ErrArg
	}
	script := spanOf(first(s[at:]))
	if script.kind != digit {
		return 0, 0, api.ErrNone
	}
	n := uint64(0)
	for i, r := range s[at:] {
		if !script.has(r) {
			return n, at + i, api.OK
		}
		d := uint64(r - script.first)
		if n > (math.MaxUint64-d)/10 {
			return 0, 0, api.ErrLarge
		}
		n = n*10 + d
	}
	return n, len(s), api.OK
}

// Column: the line and the column of a place.
func Column(s string, at int) (line, col int, e api.Errno) {
	if outside(s, at) {
		return 0, 0, api.ErrArg
	}
	line, col = 1, 1
	for _, r := range s[:at] {
		col++
		if r == '\n' {
			line, col = line+1, 1
		}
	}
	return line, col, api.OK
}

// Order: -1, 0, 1: two texts by their characters.
func Order(s, t string) int {
	for _, r := range s {
		if t == "" {
			return 1
		}
		if c := cmp.Compare(r, first(t)); c != 0 {
			return c
		}
		t = t[width(t):]
	}
	if t == "" {
		return 0
	}
	return -1
}
