package print_test

import (
	"math/rand"
	"strings"
	"testing"

	"afflux/api"
	"afflux/parse"
	. "afflux/print"
	"afflux/syntax"
)

// P14.1: texts that are printed just as they were parsed
func TestExprs(t *testing.T) {
	for _, s := range []string{"1", "'it''s'", "true", "false", "x", "r.a", "1 - (2 - 3)", "1 - 2 - 3", "not x = 1", "(not x) = y", "not (x and y)", "not x and y", "x and not y", "not not x", "--x", "-1", "x - -1", "-(x + y)", "-x * y", "-(x * y)", "(x + y) * z",
		"x + y * z", "x * (y * z)", "x or (y or z)", "(x or y) and z", "x or y and z", "x = y = false"[:5], "(x = y) = z", "x = (y = z)", "x < y + 1", "(x < y) + 1", "-(not x)", "count(r in t)", "count(r in t where false)", "count(r in t where r.a = 1 or true)", "sum(r in t: r.a + 1)",
		"min(r in t where not r.b: -r.a)", "max(r in batch where (x or y) and z: (x + y) * z)", "(x or y) * -count(r in t)", "(x and y) != z", "x >= y", "x <= y", "x > y", "x / y % z", "x / (y % z)", "not (not x) = y"} {
		e, _, err := parse.Expr(s)
		if err != api.OK {
			t.Fatal(s, err)
		}
		if got, err := Expr(e); got != s || err != api.OK {
			t.Errorf("%s: %s, %d", s, got, err)
		}
	}
	yes := api.Expr{Op: api.XBool, N: 1}
	if got, _ := Expr(api.Expr{Op: api.XCount, Name: "r", Src: "t", Args: []api.Expr{yes}}); got != "count(r in t)" {
		t.Error(got)
	}
}

const whole = `proc p(x int, y text, z bool) on x fuel 7 {
  let a = (x + 1) * 2;
  set a = a + 1;
  insert t(a, 'b');
  update r in t where r.a = 1 set a = 2, b = 'c';
  update r in t set a = 1;
  delete r in t where z;
  delete r in t;
  for r in t where r.a = 1 limit 3 {
    emit s(1);
    if z {
      abort 1;
    } else {
      abort (1 + 2) * 3;
    }
  }
  for q in t {}
  if (z or z) and z {}
  if z {} else {
    reply 1, 2;
  }
}`

// P14.1
func TestProcs(t *testing.T) {
	for _, s := range []string{whole, "proc p() {}", "proc p() from s {}", "proc p(x int) on x {}", "proc p() fuel 1 {}", "proc p() from s fuel 99 {\n  reply 1;\n}"} {
		p, _, e := parse.Proc(s)
		if e != api.OK {
			t.Fatal(s, e)
		}
		if got, e := Proc(p); got != s || e != api.OK {
			t.Errorf("%s\n%d", got, e)
		}
	}
	p, _, _ := parse.Proc("proc p() fuel 100 { if true { } else { } }")
	if got, _ := Proc(p); got != "proc p() {\n  if true {}\n}" {
		t.Error(got)
	}
}

// P14.1
func TestWrong(t *testing.T) {
	long := api.Expr{Op: api.XText, S: strings.Repeat("'", 200)}
	broken := api.Expr{Op: api.XText, S: "a\nb"}
	sum := func(l ...api.Expr) api.Expr {
		for len(l) > 1 {
			l = append(l[2:], api.Expr{Op: api.XAdd, Args: []api.Expr{l[0], l[1]}})
		}
		return l[0]
	}
	var many []api.Expr
	for range 19 {
		many = append(many, long)
	}
	for what, c := range map[string]struct {
		e    api.Expr
		want api.Errno
	}{
		"not right": {api.Expr{}, api.ErrArg}, "a newline": {sum(long, broken), api.ErrArg}, "too long": {sum(append(many, long)...), api.ErrLong}, "a newline ahead of too long": {sum(append(many, long, broken)...), api.ErrArg},
		"not too long": {sum(many...), api.OK},
	} {
		if s, e := Expr(c.e); e != c.want || (s == "") != (e != api.OK) {
			t.Error(what, e)
		}
		p := api.Proc{Name: "p", Fuel: 1, Body: []api.Stmt{{Op: api.SReply, Exprs: []api.Expr{c.e}}}}
		if s, e := Proc(p); e != c.want || (s == "") != (e != api.OK) {
			t.Error(what, e)
		}
	}
	// A last text that fills 8000 bytes just, and one of a byte more.
	last := func(quotes, plain int) api.Expr {
		l := append([]api.Expr{}, many...)
		return sum(append(l, api.Expr{Op: api.XText, S: strings.Repeat("'", quotes) + strings.Repeat("x", plain)})...)
	}
	base, _ := Expr(last(0, 0))
	quotes := api.MaxSource - len(base) - 200
	if s, e := Expr(last(quotes, 200-quotes)); len(s) != api.MaxSource || e != api.OK {
		t.Error(len(s), e)
	}
	if s, e := Expr(last(quotes+1, 199-quotes)); s != "" || e != api.ErrLong {
		t.Error(len(s), e)
	}
}

func one(r *rand.Rand, deep int) api.Expr {
	names := []string{"a", "b", "batch", "zz"}
	name := func() string { return names[r.Intn(len(names))] }
	if deep <= 1 || r.Intn(6) == 0 {
		switch r.Intn(5) {
		case 0:
			return api.Expr{Op: api.XInt, N: r.Int63() >> r.Intn(63)}
		case 1:
			return api.Expr{Op: api.XText, S: []string{"", "'", "//", "a'b", "\x00\xff\t"}[r.Intn(5)]}
		case 2:
			return api.Expr{Op: api.XBool, N: r.Int63n(2)}
		case 3:
			return api.Expr{Op: api.XVar, Name: name()}
		}
		return api.Expr{Op: api.XCol, Name: name(), S: name()}
	}
	e := api.Expr{Op: api.XAdd + r.Intn(api.XMax-api.XAdd+1)}
	n := 2
	switch {
	case e.Op == api.XNot || e.Op == api.XNeg:
		n = 1
	case e.Op == api.XCount:
		n, e.Name, e.Src = 1, name(), name()
	case e.Op > api.XCount:
		e.Name, e.Src = name(), name()
	}
	for range n {
		e.Args = append(e.Args, one(r, deep-1))
	}
	return e
}

func stmts(r *rand.Rand, deep int) []api.Stmt {
	var l []api.Stmt
	for range r.Intn(4) {
		s := api.Stmt{Op: 1 + r.Intn(10)}
		n := 1
		switch s.Op {
		case api.SLet, api.SSet:
			s.Name = "x"
		case api.SInsert, api.SEmit:
			s.Src, n = "t", 1+r.Intn(3)
		case api.SUpdate:
			s.Name, s.Src, s.Cols, n = "r", "t", []string{"a", "b"}[:1+r.Intn(2)], 0
			n = len(s.Cols) + 1
		case api.SDelete:
			s.Name, s.Src = "r", "t"
		case api.SFor:
			s.Name, s.Src, s.N = "r", "t", r.Intn(3)
		case api.SReply:
			n = 1 + r.Intn(3)
		}
		for range n {
			s.Exprs = append(s.Exprs, one(r, 3))
		}
		if (s.Op == api.SFor || s.Op == api.SIf) && deep > 1 {
			s.Body = stmts(r, deep-1)
			if s.Op == api.SIf {
				s.Else = stmts(r, deep-1)
			}
		}
		l = append(l, s)
	}
	return l
}

// P14.1, P14.2: what is printed is parsed as it was, and no parentheses can be left out
func TestThereAndBack(t *testing.T) {
	r := rand.New(rand.NewSource(8))
	for range 4000 {
		e := one(r, 1+r.Intn(6))
		s, err := Expr(e)
		if err != api.OK {
			t.Fatal(err)
		}
		back, _, err := parse.Expr(s)
		if err != api.OK || !syntax.SameExpr(e, back) {
			t.Fatalf("%s: %d", s, err)
		}
		var open []int
		for i := range len(s) {
			switch s[i] {
			case '\'':
				open = nil
			case '(':
				open = append(open, i)
			case ')':
				if len(open) == 0 {
					continue
				}
				from := open[len(open)-1]
				open = open[:len(open)-1]
				if without, _, err := parse.Expr(s[:from] + s[from+1:i] + s[i+1:]); err == api.OK && syntax.SameExpr(e, without) {
					t.Fatalf("%s: parentheses more than must be", s)
				}
			}
			if s[i] == '\'' {
				break
			}
		}
	}
	for range 2000 {
		p := api.Proc{Name: "p", Fuel: 1 + r.Intn(200), Body: stmts(r, 4)}
		if r.Intn(2) == 0 {
			p.From = "s"
		}
		s, err := Proc(p)
		if !syntax.Right(p) || err == api.ErrLong {
			continue
		}
		back, at, e := parse.Proc(s)
		if err != api.OK || e != api.OK || !syntax.Same(p, back) {
			t.Fatalf("%s: %d, %d at %d", s, err, e, at)
		}
	}
}
