package value_test

import (
	"math"
	"math/rand"
	"reflect"
	"strings"
	"testing"

	"afflux/api"
	. "afflux/value"
)

func some(r *rand.Rand) api.Value {
	switch r.Intn(3) {
	case 0:
		l := []int64{0, 1, -1, 255, 256, math.MinInt64, math.MaxInt64, r.Int63(), -r.Int63()}
		return Int(l[r.Intn(len(l))])
	case 1:
		b := make([]byte, r.Intn(5))
		for i := range b {
			b[i] = "\x00\x00\xff\x01a'\n"[r.Intn(7)]
		}
		return Text(string(b))
	}
	return Bool(r.Intn(2) == 0)
}

// P2.1
func TestMakersAndRight(t *testing.T) {
	if Int(-3) != (api.Value{Kind: 1, N: -3}) || Text("x") != (api.Value{Kind: 2, S: "x"}) ||
		Bool(true) != (api.Value{Kind: 3, N: 1}) || Bool(false) != (api.Value{Kind: 3}) {
		t.Error("makers")
	}
	long := Text(strings.Repeat("x", api.MaxText+1))
	if len(long.S) != api.MaxText+1 || Right(long) || !Right(Text(long.S[1:])) {
		t.Error("a text that is too long")
	}
	if !Right() || !Right(Int(1), Text(""), Bool(false)) {
		t.Error("Right")
	}
	for _, v := range []api.Value{{}, {Kind: 4}, {Kind: -1}, {Kind: 1, S: "x"}, {Kind: 2, N: 1}, {Kind: 3, N: 2}, {Kind: 3, N: -1}, {Kind: 3, S: "x"}} {
		if Right(v) || Right(Int(1), v) || Print(v) != "" || Key(Int(1), v) != "" {
			t.Errorf("%v is not right", v)
		}
	}
}

// P2.1
func TestOrders(t *testing.T) {
	l := []api.Value{{}, {N: 1}, Int(-1), {Kind: 1, N: -1, S: "a"}, Int(0), Text(""), Text("\xff"), Bool(false), Bool(true)}
	for i, a := range l {
		for j, b := range l {
			want := 0
			if i < j {
				want = -1
			} else if i > j {
				want = 1
			}
			if Cmp(a, b) != want || Rows([]api.Value{Int(1), a}, []api.Value{Int(1), b}) != want {
				t.Errorf("%v, %v", a, b)
			}
		}
	}
	if Rows(nil, nil) != 0 || Rows(nil, l[:1]) != -1 || Rows(l[:2], l[:1]) != 1 {
		t.Error("a row that begins another one")
	}
}

// P2.2
func TestKeys(t *testing.T) {
	if Key(Int(1), Text("a")) != "\x01\x80\x00\x00\x00\x00\x00\x00\x01\x02a\x00\x01" || Key() != "" || Key(Bool(true)) != "\x03\x01" || Key(Text("\x00")) != "\x02\x00\xff\x00\x01" {
		t.Errorf("%q", Key(Int(1), Text("a")))
	}
	if l, ok := Unkey(""); l != nil || !ok {
		t.Error("the key of no values")
	}
	wrong := []string{"\x00", "\x04", "\x01", "\x01\x80\x00\x00\x00\x00\x00\x00", "\x02", "\x02a", "\x02a\x00", "\x02a\x00\x02", "\x02a\x00\x02b\x00\x01", "\x02" + strings.Repeat("a", 201) + "\x00\x01b\x00\x01", "\x03", "\x03\x02",
		"\x03\x01\x05", "\x02" + strings.Repeat("a", 201) + "\x00\x01"}
	for _, s := range wrong {
		if l, ok := Unkey(s); l != nil || ok {
			t.Errorf("%q: %v", s, l)
		}
	}
	longest := Text(strings.Repeat("\x00", api.MaxText))
	if l, ok := Unkey(Key(longest)); !ok || l[0] != longest {
		t.Error("the longest text")
	}
}

// P2.2, P2.5
func TestKeysStandAsRows(t *testing.T) {
	r := rand.New(rand.NewSource(2))
	row := func() []api.Value {
		l := make([]api.Value, r.Intn(4))
		for i := range l {
			l[i] = some(r)
		}
		return l
	}
	for range 20000 {
		a, b := row(), row()
		x, y := Key(a...), Key(b...)
		if strings.Compare(x, y) != Rows(a, b) {
			t.Fatalf("%v, %v", a, b)
		}
		if back, ok := Unkey(x); !ok || Rows(back, a) != 0 {
			t.Fatalf("%v: %v", a, back)
		}
		begins := len(a) <= len(b) && reflect.DeepEqual(append([]api.Value{}, a...), append([]api.Value{}, b[:min(len(a), len(b))]...))
		if strings.HasPrefix(y, x) != begins {
			t.Fatalf("%v, %v: one begins the other", a, b)
		}
	}
}

// P2.3
func TestPrints(t *testing.T) {
	for s, v := range map[string]api.Value{"0": Int(0), "-12": Int(-12), "''": Text(""), "'it''s'": Text("it's"), "''''": Text("'"), "'a\nb'": Text("a\nb"), "true": Bool(true), "false": Bool(false)} {
		if back, e := Parse(s); Print(v) != s || back != v || e != api.OK {
			t.Errorf("%s: %v, %d, %s", s, back, e, Print(v))
		}
	}
	for _, s := range []string{"", "'", "'''", "'a'b'", "'a", "a'", "True", "x", "01", "-0", " 1", "9223372036854775808", "'" + strings.Repeat("x", 201) + "'"} {
		if v, e := Parse(s); v != (api.Value{}) || e != api.ErrParse {
			t.Errorf("%s: %v, %d", s, v, e)
		}
	}
	if Line() != "" || Line(Int(1)) != "1" || Line(Int(1), Text("a'"), Bool(false)) != "1, 'a''', false" {
		t.Error("Line")
	}
	r := rand.New(rand.NewSource(3))
	for range 5000 {
		v := some(r)
		if back, e := Parse(Print(v)); back != v || e != api.OK {
			t.Fatalf("%v", v)
		}
	}
}

// P2.4
func TestSpread(t *testing.T) {
	for _, c := range []struct {
		v       api.Value
		n, want int
	}{
		{Int(7), 4, 3}, {Int(-1), 4, 3}, {Int(math.MinInt64), 3, 1}, {Int(5), 1, 0}, {Int(5), 0, 0}, {Int(5), -3, 0},
		{Bool(true), 2, 1}, {Bool(false), 2, 0}, {Bool(true), 1, 0},
		{Text(""), 5, 0}, {Text("ab"), 8, (97 + 2*98) % 8}, {Text("ba"), 7, (98 + 2*97) % 7}, {Text("\xff\xff"), math.MaxInt64, 765}, {api.Value{Kind: 9, N: 3}, 2, 0},
	} {
		if got := Spread(c.v, c.n); got != c.want {
			t.Errorf("%v of %d: %d", c.v, c.n, got)
		}
	}
}
