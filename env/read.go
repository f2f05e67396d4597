package env

import (
	"strings"

	"sorrel/api"
	"sorrel/arith"
	"sorrel/runes"
)

// blank is chapter 1's kind.
const blank = 3

// reader is a text without bad bytes that is being read: at is the place that it has come to and, where a method of it answers an error, that of the fault.
type reader struct {
	text string
	at   int
}

// Read: the environment that a text writes; with an error, the place of the fault.
func Read(s string) (env []api.Bind, at int, e api.Errno) {
	if len(s) > api.MaxText {
		return nil, 0, api.ErrLong
	}
	if at, e = runes.Check(s); e != api.OK {
		return nil, at, e
	}
	r := reader{text: s}
	if env, e = r.bindings(); e != api.OK {
		return nil, r.at, e
	}
	return env, 0, api.OK
}

func (r *reader) bindings() ([]api.Bind, api.Errno) {
	r.goTo(0)
	if r.ended() {
		return nil, api.OK
	}
	var env []api.Bind
	for {
		b, bad := r.binding()
		if bad != api.OK {
			return nil, bad
		}
		env = append(env, b)
		if r.ended() {
			return env, api.OK
		}
		if bad := r.comma(len(env)); bad != api.OK {
			return nil, bad
		}
	}
}

// binding reads a name, = and a number, and the blanks behind each.
func (r *reader) binding() (api.Bind, api.Errno) {
	name, bad := r.name()
	if bad != api.OK {
		return api.Bind{}, bad
	}
	if !strings.HasPrefix(r.text[r.at:], "=") {
		return api.Bind{}, api.ErrText
	}
	r.goTo(r.at + 1)
	n, bad := r.number()
	return api.Bind{Name: name, N: n}, bad
}

func (r *reader) name() (string, api.Errno) {
	end, bad := runes.Span(r.text, r.at)
	if bad != api.OK {
		return "", api.ErrText
	}
	name := r.text[r.at:end]
	if !runes.Name(name) {
		// Its characters are a name's: it has too many.
		return "", api.ErrName
	}
	r.goTo(end)
	return name, api.OK
}

// number reads a number with its minus. Where no digit follows, the minus is at fault; where the number is too large, its digits are.
func (r *reader) number() (int64, api.Errno) {
	digits := r.at + minus(r.text[r.at:])
	_, end, bad := runes.Number(r.text, digits)
	if bad == api.ErrNone {
		return 0, api.ErrText
	}
	n := int64(0)
	if bad == api.OK {
		n, bad = arith.Read(r.text[r.at:end])
	}
	if bad != api.OK {
		r.at = digits
		return 0, api.ErrLarge
	}
	r.goTo(end)
	return n, api.OK
}

// minus is how many bytes the minus has with which s begins; 0, if it begins with none.
func minus(s string) int {
	for _, sign := range [...]string{"-", "\u2212"} {
		if strings.HasPrefix(s, sign) {
			return len(sign)
		}
	}
	return 0
}

// comma reads the comma behind so many bindings.
func (r *reader) comma(bindings int) api.Errno {
	if !strings.HasPrefix(r.text[r.at:], ",") {
		return api.ErrText
	}
	if bindings == api.MaxBinds {
		return api.ErrLarge
	}
	r.goTo(r.at + 1)
	return api.OK
}

func (r *reader) ended() bool { return r.at == len(r.text) }

// goTo leaves the reader behind the blanks that stand from at on: nothing begins with one.
func (r *reader) goTo(at int) {
	for i, c := range r.text[at:] {
		if runes.Kind(c) != blank {
			r.at = at + i
			return
		}
	}
	r.at = len(r.text)
}
