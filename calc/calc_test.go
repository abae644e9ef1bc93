package calc_test

import (
	"math"
	"math/big"
	"math/rand"
	"testing"

	"afflux/api"
	. "afflux/calc"
)

const (
	low  = math.MinInt64
	high = math.MaxInt64
)

type answer struct {
	n int64
	e api.Errno
}

func got(n int64, e api.Errno) answer { return answer{n, e} }

func same(t *testing.T, what string, have, want answer) {
	t.Helper()
	if have != want {
		t.Errorf("%s: %v, not %v", what, have, want)
	}
}

// P1.1
func TestSumsAndProducts(t *testing.T) {
	same(t, "Add()", got(Add()), answer{})
	same(t, "Mul()", got(Mul()), answer{n: 1})
	same(t, "Add back", got(Add(1<<62, 1<<62, -1)), answer{n: high})
	same(t, "Add beyond", got(Add(high, 1)), answer{e: api.ErrRange})
	same(t, "Add beyond below", got(Add(low, -1)), answer{e: api.ErrRange})
	same(t, "Add far and back", got(Add(high, high, high, high, low, low, low, low)), answer{n: -4})
	same(t, "Mul by 0", got(Mul(high, high, high, 0)), answer{})
	same(t, "Mul lowest", got(Mul(1<<62, -2)), answer{n: low})
	same(t, "Mul lowest, turned in between", got(Mul(-1<<62, -2, -1)), answer{n: low})
	same(t, "Mul beyond", got(Mul(1<<62, 2)), answer{e: api.ErrRange})
	same(t, "Mul lowest by -1", got(Mul(low, -1)), answer{e: api.ErrRange})
	same(t, "Sub", got(Sub(1)), answer{n: 1})
	same(t, "Sub far and back", got(Sub(low, high, low)), answer{n: low + 1})
	same(t, "Sub beyond", got(Sub(low, 1)), answer{e: api.ErrRange})
	same(t, "Neg", got(Neg(5)), answer{n: -5})
	same(t, "Neg highest", got(Neg(high)), answer{n: -high})
	same(t, "Neg lowest", got(Neg(low)), answer{e: api.ErrRange})
}

// P1.1 and P1.2, held against numbers of any size
func TestAgainstBig(t *testing.T) {
	r := rand.New(rand.NewSource(1))
	some := []int64{0, 1, -1, 2, -2, 3, 7, -7, 1 << 31, 1 << 32, -1 << 32, 1 << 62, -1 << 62, high, low, high - 1, low + 1}
	pick := func() int64 {
		if r.Intn(3) == 0 {
			return r.Int63n(200) - 100
		}
		return some[r.Intn(len(some))]
	}
	want := func(x *big.Int) answer {
		if !x.IsInt64() {
			return answer{e: api.ErrRange}
		}
		return answer{n: x.Int64()}
	}
	for range 20000 {
		l := make([]int64, r.Intn(5))
		sum, product := big.NewInt(0), big.NewInt(1)
		for i := range l {
			l[i] = pick()
			sum.Add(sum, big.NewInt(l[i]))
			product.Mul(product, big.NewInt(l[i]))
		}
		same(t, "Add", got(Add(l...)), want(sum))
		same(t, "Mul", got(Mul(l...)), want(product))
		a, b := pick(), pick()
		same(t, "Sub", got(Sub(a, l...)), want(new(big.Int).Sub(big.NewInt(a), sum)))
		if b == 0 {
			continue
		}
		q, m := new(big.Int).DivMod(big.NewInt(a), big.NewInt(b), new(big.Int))
		if b < 0 && m.Sign() != 0 { // DivMod's remainder is never below 0
			q.Sub(q, big.NewInt(1))
			m.Add(m, big.NewInt(b))
		}
		same(t, "Div", got(Div(a, b)), want(q))
		same(t, "Mod", got(Mod(a, b)), want(m))
	}
}

// P1.2
func TestQuotients(t *testing.T) {
	same(t, "Div", got(Div(-7, 2)), answer{n: -4})
	same(t, "Div", got(Div(7, -2)), answer{n: -4})
	same(t, "Div", got(Div(-7, -2)), answer{n: 3})
	same(t, "Mod", got(Mod(-7, 2)), answer{n: 1})
	same(t, "Mod", got(Mod(7, -2)), answer{n: -1})
	same(t, "Div by 0", got(Div(1, 0)), answer{e: api.ErrZero})
	same(t, "Mod by 0", got(Mod(low, 0)), answer{e: api.ErrZero})
	same(t, "Div beyond", got(Div(low, -1)), answer{e: api.ErrRange})
	same(t, "Mod of the lowest", got(Mod(low, -1)), answer{})
}

// P1.3
func TestLeastMost(t *testing.T) {
	if Least(3) != 3 || Least(3, 5, low, 4) != low || Most(3) != 3 || Most(-3, high, -5) != high {
		t.Error("Least, Most")
	}
}

// P1.4
func TestParsePrint(t *testing.T) {
	for _, n := range []int64{0, 1, -1, 10, -10, low, high} {
		same(t, Print(n), got(Parse(Print(n))), answer{n: n})
	}
	if Print(low) != "-9223372036854775808" {
		t.Error(Print(low))
	}
	for _, s := range []string{"", "-", "-0", "00", "007", "-01", "+1", " 1", "1 ", "1a", "a", "--1", "1-", "0x1", "1_0"} {
		same(t, s, got(Parse(s)), answer{e: api.ErrParse})
	}
	for _, s := range []string{"9223372036854775808", "-9223372036854775809", "18446744073709551616", "99999999999999999999999999"} {
		same(t, s, got(Parse(s)), answer{e: api.ErrRange})
	}
	same(t, "no number, however long", got(Parse("99999999999999999999999999x")), answer{e: api.ErrParse})
}

// P1.5
func TestTotal(t *testing.T) {
	var s Total
	s.Put(high, high)
	same(t, "beyond", got(s.Sum()), answer{e: api.ErrRange})
	s.Take(high, 5)
	same(t, "back", got(s.Sum()), answer{n: high - 5})
	if s.Count() != 0 {
		t.Error(s.Count())
	}
	s.Take(1, 2)
	if s.Count() != -2 {
		t.Error(s.Count())
	}
	s.Put()
	same(t, "rest", got(s.Sum()), answer{n: high - 8})
	var none *Total
	none.Put(1)
	none.Take(1)
	if same(t, "nil", got(none.Sum()), answer{}); none.Count() != 0 {
		t.Error("nil")
	}
}
