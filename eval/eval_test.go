package eval_test

import (
	"math"
	"reflect"
	"testing"

	"afflux/api"
	. "afflux/eval"
	"afflux/parse"
	"afflux/value"
)

func expr(t *testing.T, s string) api.Expr {
	t.Helper()
	e, at, err := parse.Expr(s)
	if err != api.OK {
		t.Fatalf("%s: %d at %d", s, err, at)
	}
	return e
}

func cols(names ...string) []api.Column {
	var l []api.Column
	for _, n := range names {
		l = append(l, api.Column{Name: n, Kind: 1})
	}
	return l
}

func ints(l ...int64) []api.Value {
	var row []api.Value
	for _, n := range l {
		row = append(row, value.Int(n))
	}
	return row
}

func place(fuel int) *Env {
	return New(fuel).Let("x", value.Int(2)).Let("s", value.Text("it's")).Let("yes", value.Bool(true)).
		Row("r", cols("a", "b", "a"), value.Int(7), value.Text("b"), value.Int(8)).
		Source("t", cols("a", "b"), ints(1, 5), ints(2, 5), ints(3, 4)).Source("none", cols("a"))
}

// P16.1
func TestPlace(t *testing.T) {
	v := New(-5)
	if v.Left() != 0 || v.Spend(1) || !v.Spend(0) {
		t.Error("none below 0")
	}
	v = New(10)
	if !v.Spend(3) || v.Left() != 7 || v.Spend(8) || v.Spend(-1) || v.Left() != 7 || !v.Spend(7) || v.Left() != 0 {
		t.Error("Spend")
	}
	v = New(99)
	if v.Let("a", value.Int(1)) != v || v.Row("a", nil) != v || v.Source("a", nil) != v || v.Drop(0) != v || v.Drop(-3) != v {
		t.Error("it answers itself")
	}
	if x, ok := v.Value("a"); x != value.Int(1) || !ok {
		t.Error("a row or source counts for nothing")
	}
	v.Let("a", value.Int(2))
	if !v.Set("a", value.Int(3)) || v.Set("b", value.Int(1)) {
		t.Error("Set")
	}
	if x, ok := v.Value("a"); x != value.Int(3) || !ok {
		t.Error("what was let last", x)
	}
	v.Drop(1)
	if x, _ := v.Value("a"); x != value.Int(1) {
		t.Error("the one ahead", x)
	}
	if _, e := v.Eval(expr(t, "a")); e != api.ErrType {
		t.Error("the row hides the value", e)
	}
	if x, e := v.Drop(2).Eval(expr(t, "a")); x != value.Int(1) || e != api.OK {
		t.Error("the row was dropped", x, e)
	}
	if x, ok := v.Drop(99).Value("a"); x != (api.Value{}) || ok {
		t.Error("all was dropped")
	}
	row, source, names := ints(1), [][]api.Value{ints(4)}, cols("a")
	v.Row("r", names, row...).Source("t", names, source...)
	row[0], source[0][0], names[0].Name = value.Int(9), value.Int(9), "z"
	if l, e := v.All(expr(t, "r.a"), expr(t, "sum(q in t: q.a)")); !reflect.DeepEqual(l, ints(1, 4)) || e != api.OK {
		t.Error("what is handed in isn't kept", l, e)
	}
}

// P16.1, P16.2 of a nil place
func TestNil(t *testing.T) {
	var v *Env
	var f *Fuel
	x, ok := v.Value("a")
	y, e := v.Eval(api.Expr{})
	l, e2 := v.All()
	if v.Let("a", x) != nil || v.Row("a", nil) != nil || v.Source("a", nil) != nil || v.Drop(1) != nil || x != (api.Value{}) || ok || v.Set("a", x) || v.Left() != 0 || v.Spend(0) || f.Spend(0) || y != x || e != api.ErrArg || l != nil || e2 != api.ErrArg {
		t.Error("nil")
	}
}

// P16.2: what expressions are, and their steps
func TestEval(t *testing.T) {
	yes, no := value.Bool(true), value.Bool(false)
	for _, c := range []struct {
		s     string
		want  api.Value
		steps int
	}{
		{"5", value.Int(5), 1}, {"'it''s'", value.Text("it's"), 1}, {"false", no, 1}, {"x", value.Int(2), 1}, {"x * 3", value.Int(6), 3}, {"r.a", value.Int(7), 1}, {"r.b", value.Text("b"), 1},
		{"x + 1 - 5", value.Int(-2), 5}, {"-x / 3", value.Int(-1), 4}, {"-x % 3", value.Int(1), 4}, {"--x", value.Int(2), 3},
		{"x = 2", yes, 3}, {"x != 2", no, 3}, {"s = 'it''s'", yes, 3}, {"yes = false", no, 3}, {"yes != false", yes, 3}, {"x < 3", yes, 3}, {"x < 2", no, 3}, {"x < 1", no, 3}, {"x <= 2", yes, 3}, {"x <= 1", no, 3}, {"x >= 3", no, 3}, {"x >= 2", yes, 3}, {"x >= 1", yes, 3}, {"x > 1", yes, 3}, {"x > 2", no, 3}, {"x > 3", no, 3}, {"'a' < 'b'", yes, 3}, {"'b' <= 'a'", no, 3},
		{"yes and false", no, 3}, {"false and z", no, 2}, {"false and 1", no, 2}, {"yes and yes", yes, 3}, {"yes or z", yes, 2}, {"false or yes", yes, 3}, {"false or false", no, 3}, {"not yes", no, 2}, {"not false", yes, 2},
		{"count(q in t)", value.Int(3), 7}, {"count(q in t where q.b = 5)", value.Int(2), 13}, {"count(q in none)", value.Int(0), 1}, {"sum(q in t: q.a * 2)", value.Int(12), 16}, {"sum(q in none: z)", value.Int(0), 1},
		{"min(q in t where q.b = 5: q.a)", value.Int(1), 15}, {"max(q in t: -q.a)", value.Int(-1), 13}, {"count(q in t where count(p in t where p.b = q.b) = 2)", value.Int(2), 49},
		{"sum(r in t: r.a)", value.Int(6), 10}, {"count(x in t where x.a = 1) + x", value.Int(3), 15},
	} {
		v := place(c.steps)
		if x, e := v.Eval(expr(t, c.s)); x != c.want || e != api.OK || v.Left() != 0 {
			t.Errorf("%s: %v, %d, %d left", c.s, x, e, v.Left())
		}
		for steps := range c.steps {
			v = place(steps)
			if x, e := v.Eval(expr(t, c.s)); x != (api.Value{}) || e != api.ErrFuel || v.Left() != 0 {
				t.Errorf("%s, of %d steps: %v, %d, %d left", c.s, steps, x, e, v.Left())
			}
		}
	}
}

// P16.2: the first error is told
func TestErrors(t *testing.T) {
	for s, want := range map[string]api.Errno{
		"z": api.ErrType, "r": api.ErrType, "x.a": api.ErrType, "z.a": api.ErrType, "r.c": api.ErrType, "t": api.ErrType, "count(q in z)": api.ErrType, "count(q in r)": api.ErrType,
		"9223372036854775807 + 1": api.ErrRange, "-9223372036854775807 - x": api.ErrRange, "x / 0": api.ErrZero, "x % 0": api.ErrZero, "9223372036854775807 * x": api.ErrRange,
		"s + x / 0": api.ErrZero, "x / 0 + z": api.ErrZero, "z + x / 0": api.ErrType, "s = x / 0": api.ErrZero, "s + x": api.ErrType, "yes + yes": api.ErrType, "-s": api.ErrType, "-yes": api.ErrType, "-(x / 0)": api.ErrZero,
		"x = s": api.ErrType, "x < yes": api.ErrType, "not x": api.ErrType, "x and yes": api.ErrType, "yes and x": api.ErrType, "false or s": api.ErrType, "x or yes": api.ErrType, "yes and x / 0 = 1": api.ErrZero,
		"count(q in t where q.a)": api.ErrType, "count(q in t where q.z = 1)": api.ErrType, "sum(q in t: yes)": api.ErrType, "min(q in none: 1)": api.ErrNone, "max(q in t where false: 1)": api.ErrNone, "sum(q in t: 9223372036854775807)": api.ErrRange,
		"sum(q in t: q.a / (q.a - 3))": api.ErrZero, "count(q in t) + q.a": api.ErrType,
	} {
		v := place(1000)
		if x, e := v.Eval(expr(t, s)); x != (api.Value{}) || e != want {
			t.Errorf("%s: %v, %d", s, x, e)
		}
		if x, e := v.Eval(expr(t, "x + r.a")); x != value.Int(9) || e != api.OK {
			t.Errorf("behind %s: %v, %d", s, x, e)
		}
	}
	v := place(5)
	if _, e := v.Eval(api.Expr{Op: api.XInt, N: -1}); e != api.ErrType || v.Left() != 5 {
		t.Error("one that isn't right", e)
	}
	if l, e := v.All(expr(t, "x"), expr(t, "x / 0"), expr(t, "z")); l != nil || e != api.ErrZero || v.Left() != 1 {
		t.Error("All", l, e, v.Left())
	}
	if l, e := v.All(); l != nil || e != api.OK {
		t.Error("All of none")
	}
}

// P16.2: truths are held against each other by = and != alone (15)
func TestTruthsInOrder(t *testing.T) {
	for _, s := range []string{"yes < yes", "yes <= false", "yes >= false", "false > yes"} {
		if x, e := place(99).Eval(expr(t, s)); x != (api.Value{}) || e != api.ErrType {
			t.Errorf("%s: %v, %d", s, x, e)
		}
	}
}

// P16.2
func TestFarSumsAndOddValues(t *testing.T) {
	v := New(1000).Source("t", cols("a"), ints(math.MaxInt64), ints(5), ints(-9)).Row("short", cols("a", "b"), value.Int(1)).
		Let("odd", api.Value{Kind: 1, N: 3, S: "x"}).Source("odds", cols("a"), []api.Value{{Kind: 1, N: 3, S: "x"}}).Let("own", api.Value{Kind: 9, N: 1})
	for s, want := range map[string]api.Value{"sum(q in t: q.a)": value.Int(math.MaxInt64 - 4), "max(q in odds: q.a)": value.Int(3), "odd": {Kind: 1, N: 3, S: "x"}, "odd + 1": value.Int(4), "odd = 3": value.Bool(false), "own = own": value.Bool(true)} {
		if x, e := v.Eval(expr(t, s)); x != want || e != api.OK {
			t.Errorf("%s: %v, %d", s, x, e)
		}
	}
	if _, e := v.Eval(expr(t, "short.b")); e != api.ErrType {
		t.Error("a row that is too short", e)
	}
}
