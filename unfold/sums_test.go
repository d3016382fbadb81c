package unfold

import (
	"fmt"
	"math/big"
	"math/rand"
	"testing"

	"bulkhead/api"
)

// signs are the operators' signs.
var signs = []string{"==", "!=", "<", "<=", ">", ">=", "|", "^", "&", "<<", ">>", "+", "-", "*", "/", "%"}

// worked tells what an operator makes of two numbers, in numbers of any size.
func worked(sign string, a, b uint64) (uint64, api.Errno) {
	x, y, z := new(big.Int).SetUint64(a), new(big.Int).SetUint64(b), new(big.Int)
	order := x.Cmp(y)
	truth := map[string]bool{"==": order == 0, "!=": order != 0, "<": order < 0, "<=": order <= 0, ">": order > 0, ">=": order >= 0}
	if holds, ok := truth[sign]; ok {
		if holds {
			return 1, api.OK
		}
		return 0, api.OK
	}
	steps := uint(min(b, 200))
	switch sign {
	case "|":
		z.Or(x, y)
	case "^":
		z.Xor(x, y)
	case "&":
		z.And(x, y)
	case "<<":
		z.Lsh(x, steps)
	case ">>":
		z.Rsh(x, steps)
	case "+":
		z.Add(x, y)
	case "-":
		z.Sub(x, y)
	case "*":
		z.Mul(x, y)
	default:
		if b == 0 {
			return 0, api.ErrZero
		}
		if z.Div(x, y); sign == "%" {
			z.Mod(x, y)
		}
	}
	if !z.IsUint64() {
		return 0, api.ErrOver
	}
	return z.Uint64(), api.OK
}

// TestOperators: each operator of numbers at the edges and of any, against
// numbers of any size; refused at the operator's own byte.
func TestOperators(t *testing.T) {
	t.Parallel()
	numbers := []uint64{0, 1, 2, 3, 7, 31, 32, 33, 62, 63, 64, 65, 127, 128, 1<<32 - 1, 1 << 32, 1<<32 + 1, 1<<63 - 1, 1 << 63, 1<<63 + 1, 1<<64 - 2, 1<<64 - 1}
	r := rand.New(rand.NewSource(8))
	for range 12 {
		numbers = append(numbers, r.Uint64()>>uint(r.Intn(64)))
	}
	for _, sign := range signs {
		for _, a := range numbers {
			for _, b := range numbers {
				want, why := worked(sign, a, b)
				if why != api.OK {
					refused(t, "Numbers", fmt.Sprintf("ram 5 size %d @%s %d ;", a, sign, b), why)
					continue
				}
				if p := unfolded(t, fmt.Sprintf("ram 5 size %d %s %d ;", a, sign, b)); p.Rams[0].Size != want || p.Rams[0].At != 5 {
					t.Errorf("Numbers: %d %s %d: %+v, want %d", a, sign, b, p.Rams[0], want)
				}
			}
		}
	}
}

// TestExpressions: the whole of an expression, and which refusal is the first.
func TestExpressions(t *testing.T) {
	t.Parallel()
	for expr, want := range map[string]uint64{
		"1 + 2 * 3":                        7,
		"(1 + 2) * 3":                      9,
		"10 - 4 - 3":                       3,
		"10 - (4 - 3)":                     9,
		"100 / 7 / 2":                      7,
		"100 / (7 / 2)":                    33,
		"100 % 7 * 2":                      4,
		"1 << 2 << 3":                      32,
		"1 << 63":                          1 << 63,
		"0 << 64":                          0,
		"0 << 18446744073709551615":        0,
		"5 >> 64":                          0,
		"5 >> 18446744073709551615":        0,
		"18446744073709551615 >> 63":       1,
		"1 | 2 ^ 3 & 1":                    3,
		"3 == 3":                           1,
		"(2 < 1) == (4 < 3)":               1,
		"18446744073709551615 + 0":         1<<64 - 1,
		"4K * 4K":                          1 << 24,
		"0xff":                             255,
		"4294967295 * 4294967297":          1<<64 - 1,
		"n":                                9,
		"n * n - n":                        72,
		"18446744073709551615 - n == 9223": 0,
	} {
		if p := unfolded(t, "const n = 9 ; ram "+expr+" size 0 ;"); p.Rams[0].At != want {
			t.Errorf("Numbers: %s: %d, want %d", expr, p.Rams[0].At, want)
		}
	}
	for _, c := range []struct {
		expr string
		want api.Errno
	}{
		{"0 @- 1", api.ErrOver},
		{"1 @<< 64", api.ErrOver},
		{"3 @<< 63", api.ErrOver},
		{"18446744073709551615 @+ 1", api.ErrOver},
		{"4294967296 @* 4294967296", api.ErrOver},
		{"1 @/ 0", api.ErrZero},
		{"0 @% 0", api.ErrZero},
		{"@a", api.ErrName},
		{"n + @a", api.ErrName},
		{"@a + b", api.ErrName},
		{"1 @/ 0 + a", api.ErrZero},
		{"@a + 1 / 0", api.ErrName},
		{"(0 @- 1) + (1 / 0)", api.ErrOver},
		{"(0 @- 1) * 0", api.ErrOver},
		{"0 * (0 @- 1)", api.ErrOver},
		{"0 - 1 @/ 0", api.ErrZero},
		{"(1 @/ 0) / (0 - 1)", api.ErrZero},
		{"1 / (2 @% 0)", api.ErrZero},
		{"1 / (n @- 10)", api.ErrOver},
		{"1 @/ (n - 9)", api.ErrZero},
		{"1 << (n @<< 61)", api.ErrOver},
	} {
		refused(t, "Numbers", "const n = 9 ; ram "+c.expr+" size 0 ;", c.want)
	}
}

// TestOnlyNamesInExpressions: what is declared is not a number's name.
func TestOnlyNamesInExpressions(t *testing.T) {
	t.Parallel()
	refused(t, "Numbers", "region r size 4 ; ram @r size 0 ;", api.ErrName)
	refused(t, "Numbers", "group g ( ) { } ram @g size 0 ;", api.ErrName)
	refused(t, "Numbers", "ram @s size 0 ;", api.ErrName)
	refused(t, "Numbers", "const r = 1 ; region r size r ; region r[r] size 0 ;", api.OK)
}
