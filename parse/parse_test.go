package parse_test

import (
	"strings"
	"testing"

	"afflux/api"
	"afflux/lex"
	. "afflux/parse"
	"afflux/syntax"
)

func num(n int64) api.Expr          { return api.Expr{Op: api.XInt, N: n} }
func name(s string) api.Expr        { return api.Expr{Op: api.XVar, Name: s} }
func col(r, c string) api.Expr      { return api.Expr{Op: api.XCol, Name: r, S: c} }
func truth(n int64) api.Expr        { return api.Expr{Op: api.XBool, N: n} }
func text(s string) api.Expr        { return api.Expr{Op: api.XText, S: s} }
func list(l ...api.Expr) []api.Expr { return l }

func op(o int, args ...api.Expr) api.Expr { return api.Expr{Op: o, Args: args} }

func tally(o int, r, t string, args ...api.Expr) api.Expr {
	return api.Expr{Op: o, Name: r, Src: t, Args: args}
}

// P13.1, P13.3
func TestExpr(t *testing.T) {
	a, b, c := name("a"), name("b"), name("c")
	for s, want := range map[string]api.Expr{
		"a":                                a,
		"12":                               num(12),
		"'x'''":                            text("x'"),
		"true":                             truth(1),
		"false":                            truth(0),
		"a.b":                              col("a", "b"),
		"a . b":                            col("a", "b"),
		"-1":                               op(api.XNeg, num(1)),
		"--a":                              op(api.XNeg, op(api.XNeg, a)),
		"a or b and c":                     op(api.XOr, a, op(api.XAnd, b, c)),
		"a or b or c":                      op(api.XOr, op(api.XOr, a, b), c),
		"a and b and c or a":               op(api.XOr, op(api.XAnd, op(api.XAnd, a, b), c), a),
		"not a and b":                      op(api.XAnd, op(api.XNot, a), b),
		"not not a = b":                    op(api.XNot, op(api.XNot, op(api.XEq, a, b))),
		"not (a and b)":                    op(api.XNot, op(api.XAnd, a, b)),
		"a != b":                           op(api.XNe, a, b),
		"a < b + c":                        op(api.XLt, a, op(api.XAdd, b, c)),
		"a <= b":                           op(api.XLe, a, b),
		"a >= b":                           op(api.XGe, a, b),
		"a > b":                            op(api.XGt, a, b),
		"a - b - c":                        op(api.XSub, op(api.XSub, a, b), c),
		"a - (b - c)":                      op(api.XSub, a, op(api.XSub, b, c)),
		"a - -b":                           op(api.XSub, a, op(api.XNeg, b)),
		"a--b":                             op(api.XSub, a, op(api.XNeg, b)),
		"a * b / c % a":                    op(api.XMod, op(api.XDiv, op(api.XMul, a, b), c), a),
		"a + b * -c":                       op(api.XAdd, a, op(api.XMul, b, op(api.XNeg, c))),
		"-a * b":                           op(api.XMul, op(api.XNeg, a), b),
		"(a = b) = c":                      op(api.XEq, op(api.XEq, a, b), c),
		"count(r in t)":                    tally(api.XCount, "r", "t", truth(1)),
		"count ( r in t where r.a = 1 )":   tally(api.XCount, "r", "t", op(api.XEq, col("r", "a"), num(1))),
		"sum(r in t: r.a)":                 tally(api.XSum, "r", "t", truth(1), col("r", "a")),
		"min(r in t where not a: r.a + 1)": tally(api.XMin, "r", "t", op(api.XNot, a), op(api.XAdd, col("r", "a"), num(1))),
		"max(r in t where a:b)":            tally(api.XMax, "r", "t", a, b),
		" // a remark\n(((a)))\t\n//":      a,
		strings.Repeat("(", 60) + "a" + strings.Repeat(")", 60): a,
	} {
		e, at, err := Expr(s)
		if err != api.OK || at != 0 || !syntax.SameExpr(e, want) {
			t.Errorf("%s: %v, %d, %d", s, e, at, err)
		}
	}
}

const whole = `proc p(x int, y text, z bool) on x fuel 7 {
	let a = 1; set a = a + 1; insert t(a, 'b');
	update r in t where r.a = 1 set a = 2, b = 'c'; update r in t set a = 1;
	delete r in t where z; delete r in t;
	for r in t where r.a = 1 limit 3 { emit s(1); } for q in t {}
	if z { abort 1; } if z {} else { reply 1, 2; } }`

// P13.1
func TestProc(t *testing.T) {
	want := api.Proc{Name: "p", At: "x", Fuel: 7, Params: []api.Column{{Name: "x", Kind: 1}, {Name: "y", Kind: 2}, {Name: "z", Kind: 3}}, Body: []api.Stmt{
		{Op: api.SLet, Name: "a", Exprs: list(num(1))}, {Op: api.SSet, Name: "a", Exprs: list(op(api.XAdd, name("a"), num(1)))}, {Op: api.SInsert, Src: "t", Exprs: list(name("a"), text("b"))},
		{Op: api.SUpdate, Name: "r", Src: "t", Cols: []string{"a", "b"}, Exprs: list(op(api.XEq, col("r", "a"), num(1)), num(2), text("c"))}, {Op: api.SUpdate, Name: "r", Src: "t", Cols: []string{"a"}, Exprs: list(truth(1), num(1))},
		{Op: api.SDelete, Name: "r", Src: "t", Exprs: list(name("z"))}, {Op: api.SDelete, Name: "r", Src: "t", Exprs: list(truth(1))},
		{Op: api.SFor, Name: "r", Src: "t", N: 3, Exprs: list(op(api.XEq, col("r", "a"), num(1))), Body: []api.Stmt{{Op: api.SEmit, Src: "s", Exprs: list(num(1))}}}, {Op: api.SFor, Name: "q", Src: "t", Exprs: list(truth(1))},
		{Op: api.SIf, Exprs: list(name("z")), Body: []api.Stmt{{Op: api.SAbort, Exprs: list(num(1))}}}, {Op: api.SIf, Exprs: list(name("z")), Else: []api.Stmt{{Op: api.SReply, Exprs: list(num(1), num(2))}}},
	}}
	if p, at, e := Proc(whole); !syntax.Same(p, want) || at != 0 || e != api.OK {
		t.Error(p, at, e)
	}
	for s, want := range map[string]api.Proc{
		"proc p(){}":                 {Name: "p", Fuel: 100},
		"proc p() from s {}":         {Name: "p", Fuel: 100, From: "s"},
		"proc p() fuel 2000 { }":     {Name: "p", Fuel: 2000},
		"proc p(a int) on a { //\n}": {Name: "p", Fuel: 100, At: "a", Params: []api.Column{{Name: "a", Kind: 1}}},
	} {
		if p, at, e := Proc(s); !syntax.Same(p, want) || at != 0 || e != api.OK {
			t.Error(s, p, at, e)
		}
	}
}

// P13.1: the place of the first word with which it can't go on is marked with ^
func TestParseErrors(t *testing.T) {
	for _, s := range []string{"^", "proc^", "proc ^1", "proc p^", "proc p(^", "proc p(x ^)", "proc p(x int^", "proc p(x int,^) {}", "proc p(x int ^y int) {}", "proc p() on^", "proc p() on ^1 {}",
		"proc p() from s ^on x {}", "proc p() fuel ^x {}", "proc p() fuel ^-1 {}", "proc p() fuel 5 ^from s {}", "proc p() ^;", "proc p() {^", "proc p() {} ^}", "^x", "proc p() { ^; }", "proc p() { ^x = 1; }", "proc p() { let ^1 = 1; }",
		"proc p() { let x ^1; }", "proc p() { let x = ^; }", "proc p() { let x = 1 ^}", "proc p() { let x = 1 ^2; }", "proc p() { insert ^(1); }", "proc p() { insert t ^1; }", "proc p() { insert t(^); }", "proc p() { insert t(1,^); }",
		"proc p() { insert t(1 ^; }", "proc p() { update r ^t set a = 1; }", "proc p() { update r in t ^a = 1; }", "proc p() { update r in t set ^1 = 1; }", "proc p() { update r in t set a = 1,^; }", "proc p() { update r in t where 1 ^; }",
		"proc p() { delete r in t ^limit 1; }", "proc p() { for r in t limit ^0 {} }", "proc p() { for r in t limit ^x {} }", "proc p() { for r in t limit 1 ^where x {} }", "proc p() { for r in t ^; }", "proc p() { if ^{} }", "proc p() { if x {} else ^if y {} }",
		"proc p() { if x {} ^; }", "proc p() { reply ^; }", "proc p() { abort 1^, 2; }", "proc p() { emit s(1) ^}", "proc p() { ^else {} }", "proc p() { let x = 1 + ^'a", "proc p() { ^!", "proc p() { ^999999999999999999999; }"} {
		check(t, s, func(s string) (int, api.Errno) {
			p, at, e := Proc(s)
			if !syntax.Same(p, api.Proc{}) {
				t.Error(s, "beside an error")
			}
			return at, e
		})
	}
	for _, s := range []string{"^", "a ^b", "a = b ^= c", "a < b ^!= c", "a and^", "a or ^or b", "a = ^not b", "a + ^not b", "-^", "(a^", "(a ^b)", "(^)", "a.^", "a.^1", "a.b^.c", "1 ^'a'", "count^", "count ^+ 1", "count(^1 in t)", "count(r ^t)",
		"count(r in t ^: 1)", "count(r in t where ^)", "sum(r in t^)", "sum(r in t where a ^)", "sum(r in t: ^)", "max(r in t: 1 ^: 2)", "count(^)", "not^", "^)", "a ^:", "a ^limit", "^=", "a =^"} {
		check(t, s, func(s string) (int, api.Errno) {
			_, at, e := Expr(s)
			return at, e
		})
	}
	if _, at, e := Proc(strings.Repeat(" ", 8001)); at != 0 || e != api.ErrLong {
		t.Error("too long")
	}
}

// P13.1: a reserved word is no name (12)
func TestReservedWords(t *testing.T) {
	for _, s := range []string{"proc ^if() {}", "proc p(x ^key) {}", "proc p() { let ^true = 1; }"} {
		check(t, s, func(s string) (int, api.Errno) {
			_, at, e := Proc(s)
			return at, e
		})
	}
	for _, s := range []string{"a.^in", "^where", "^int", "count(r in ^from)"} {
		check(t, s, func(s string) (int, api.Errno) {
			_, at, e := Expr(s)
			return at, e
		})
	}
	l, _, _ := lex.Words("proc p() { let if = 1; }")
	c := lex.On(l, 24)
	if _, ok := Body(c); ok || c.Left() != 5 {
		t.Error("Body", c.Left())
	}
}

func check(t *testing.T, s string, parse func(string) (int, api.Errno)) {
	t.Helper()
	place := strings.Index(s, "^")
	text := s[:place] + s[place+1:]
	at, e := parse(text)
	if e != api.ErrParse || at != place {
		t.Errorf("%s: %d, %d", s, at, e)
	}
}

// P13.1
func TestErrDeep(t *testing.T) {
	nine := strings.Repeat("1, ", 8) + "1"
	for _, s := range []string{"proc p(x int, x int) {}", "proc p() on x {}", "proc p(x int) from s {}", "proc p() fuel 0 {}", "proc p() fuel 2001 {}", "proc p(a int, b int, c int, d int, e int, f int, g int, h int, i int) {}",
		"proc p() { reply " + nine + "; }", "proc p() { insert t(" + nine + "); }", "proc p() { update r in t set a = 1, a = 2; }", "proc p() { for r in t limit 1001 {} }", "proc p() { reply ------------1; }", "proc p() { reply 1" + strings.Repeat(" + 1", 11) + "; }",
		"proc p() {" + strings.Repeat(" abort 1;", 151) + " }", "proc p() { for r in t limit 9223372036854775807 {} }",
		"proc p() { if " + strings.Repeat("(", 60) + "!", "proc p() { insert t(" + strings.Repeat("-", 59) + " }"} {
		want := api.ErrDeep
		if strings.HasSuffix(s, "!") {
			want = api.ErrParse // no words
		}
		if p, at, e := Proc(s); !syntax.Same(p, api.Proc{}) || e != want || want == api.ErrDeep && at != 0 {
			t.Error(s, p, at, e)
		}
	}
	signs := func(s string, n int) string { return strings.Repeat(s, n) }
	for _, s := range []string{signs("(", 61), signs("(", 61) + "a" + signs(")", 61), signs("- ", 61) + "a", signs("not ", 61), signs("(", 30) + signs("not ", 30) + "- }", signs("(", 60) + "count(", signs("(", 60) + "- = ", "-" + signs("count(r in t where ", 60) + "}"} {
		if _, at, e := Expr(s); at != 0 || e != api.ErrDeep {
			t.Error(s, at, e)
		}
	}
	for _, s := range []string{signs("(", 60) + "^}", signs("(", 60) + "a ^b", signs("(", 60) + "count ^-", signs("not (", 30) + "^=", signs("(", 59) + "-a) ^}", signs("- ", 60) + "a ^b", "((a)" + signs(" + (a)", 70) + "^"} {
		check(t, s, func(s string) (int, api.Errno) {
			_, at, e := Expr(s)
			return at, e
		})
	}
	if _, at, e := Expr(signs("(", 30) + signs("-", 31) + "!"); at != 61 || e != api.ErrParse {
		t.Error("Words' error first", at, e)
	}
	if _, at, e := Expr("a" + signs(" + a", 299)); at != 0 || e != api.ErrDeep {
		t.Error("too deep", at, e)
	}
}

// P13.2
func TestBody(t *testing.T) {
	for s, c := range map[string]struct {
		ok   bool
		left int
	}{
		"proc p() {} proc":       {true, 1},
		"proc p() {}":            {true, 0},
		"proc p() { x":           {false, 1},
		"proc p() fuel 0 {} a b": {false, 2},
		"sink":                   {false, 1},
		"":                       {false, 0},
		"proc p(x int) { reply " + strings.Repeat("(", 59) + "a b": {false, 1},
		"proc p(x int) { reply " + strings.Repeat("(", 60) + "a b": {false, 2},
	} {
		l, _, _ := lex.Words(s)
		cursor := lex.On(l, len(s))
		p, ok := Body(cursor)
		if ok != c.ok || cursor.Left() != c.left || (p.Name == "p") != ok {
			t.Errorf("%s: %v, %d left", s, ok, cursor.Left())
		}
	}
	if p, ok := Body(nil); ok || p.Name != "" {
		t.Error("nil")
	}
	wrong := lex.On([]lex.Word{{Kind: lex.Name, Text: "proc"}, {Kind: lex.Name, Text: "No"}}, 0)
	if _, ok := Body(wrong); ok || wrong.Left() != 1 {
		t.Error("a word that is no name")
	}
}

// P13.3
func TestBlanksChangeNothing(t *testing.T) {
	l, _, _ := lex.Words(whole)
	var b strings.Builder
	for _, w := range l {
		s := w.Text
		if w.Kind == lex.Text {
			s = "'" + s + "'"
		}
		b.WriteString("//'!\n\t " + s + " // x\n")
	}
	p, _, e := Proc(whole)
	q, _, f := Proc(b.String())
	if e != api.OK || f != api.OK || !syntax.Same(p, q) {
		t.Error(e, f)
	}
}
