package arith_test

import (
	"math/big"
	"regexp"
	"strings"

	"sorrel/api"
)

// The second reckoning: numbers without any bound, cut to 64 bits only in the end.

// wrap is the number of 64 bits that is left of one without bound.
func wrap(x *big.Int) int64 {
	whole := new(big.Int).Lsh(big.NewInt(1), 64)
	x = new(big.Int).Mod(x, whole)
	if x.Bit(63) == 1 {
		x.Sub(x, whole)
	}
	return x.Int64()
}

// flag is 1 or 0.
func flag(b bool) *big.Int {
	if b {
		return big.NewInt(1)
	}
	return new(big.Int)
}

// arity is how many parts an operator has, and 0, if Apply takes none of its kind.
func arity(op int) int {
	switch op {
	case api.OpNeg, api.OpNot:
		return 1
	case api.OpAdd, api.OpSub, api.OpMul, api.OpDiv, api.OpRem, api.OpAnd, api.OpOr, api.OpXor, api.OpShl, api.OpShr, api.OpEq, api.OpLt:
		return 2
	case api.OpIf:
		return 3
	}
	return 0
}

// apply is what Apply must answer.
func apply(op int, args []int64) (int64, api.Errno) {
	if arity(op) == 0 || arity(op) != len(args) {
		return 0, api.ErrArg
	}
	var x [3]*big.Int
	for i, n := range args {
		x[i] = big.NewInt(n)
	}
	a, b, z := x[0], x[1], new(big.Int)
	switch op {
	case api.OpNeg:
		z.Neg(a)
	case api.OpNot:
		z.Sub(z.Neg(a), big.NewInt(1))
	case api.OpAdd:
		z.Add(a, b)
	case api.OpSub:
		z.Sub(a, b)
	case api.OpMul:
		z.Mul(a, b)
	case api.OpDiv, api.OpRem:
		if b.Sign() == 0 {
			return 0, api.ErrTrap
		}
		z.Quo(a, b)
		if op == api.OpRem {
			z.Sub(a, z.Mul(z, b))
		}
	case api.OpAnd:
		z.And(a, b)
	case api.OpOr:
		z.Or(a, b)
	case api.OpXor:
		z.Xor(a, b)
	case api.OpShl:
		z.Mul(a, power(b))
	case api.OpShr:
		z.Div(a, power(b)) // towards the lesser number, as a shift with the sign does
	case api.OpEq:
		z = flag(a.Cmp(b) == 0)
	case api.OpLt:
		z = flag(a.Cmp(b) < 0)
	case api.OpIf:
		z = x[1]
		if a.Sign() == 0 {
			z = x[2]
		}
	}
	return wrap(z), api.OK
}

// power is two to the power that the lowest six bits of b write.
func power(b *big.Int) *big.Int {
	by := new(big.Int).Mod(b, big.NewInt(64))
	return new(big.Int).Exp(big.NewInt(2), by, nil)
}

var form = regexp.MustCompile(`^[-\x{2212}]?([0-9]+|[\x{660}-\x{669}]+|[\x{ff10}-\x{ff19}]+)$`)

// plain writes what stands for a digit or a minus as the plain one.
func plain(r rune) rune {
	switch {
	case r >= 0x660 && r <= 0x669:
		return r - 0x660 + '0'
	case r >= 0xff10 && r <= 0xff19:
		return r - 0xff10 + '0'
	case r == 0x2212:
		return '-'
	}
	return r
}

// read is what Read must answer.
func read(s string) (int64, api.Errno) {
	if len(s) > 4096 {
		return 0, api.ErrLong
	}
	if !form.MatchString(s) {
		return 0, api.ErrText
	}
	n, _ := new(big.Int).SetString(strings.Map(plain, s), 10)
	if !n.IsInt64() {
		return 0, api.ErrLarge
	}
	return n.Int64(), api.OK
}
