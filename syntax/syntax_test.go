package syntax_test

import (
	"reflect"
	"strings"
	"testing"

	"afflux/api"
	. "afflux/syntax"
)

func num(n int64) api.Expr { return api.Expr{Op: api.XInt, N: n} }
func yes() api.Expr        { return api.Expr{Op: api.XBool, N: 1} }

func op(op int, args ...api.Expr) api.Expr { return api.Expr{Op: op, Args: args} }

func tallied(op int, name, src string, args ...api.Expr) api.Expr {
	return api.Expr{Op: op, Name: name, Src: src, Args: args}
}

func deep(n int) api.Expr {
	e := num(1)
	for range n - 1 {
		e = op(api.XNeg, e)
	}
	return e
}

func wide(n int) api.Proc {
	p := api.Proc{Name: "p", Fuel: 1}
	for range n / 2 {
		p.Body = append(p.Body, api.Stmt{Op: api.SAbort, Exprs: []api.Expr{num(1)}})
	}
	return p
}

func whole() api.Proc {
	one := []api.Expr{num(1)}
	return api.Proc{
		Name: "p", At: "a", Fuel: 2000, Params: []api.Column{{Name: "a", Kind: 1}, {Name: "b", Kind: 3}},
		Body: []api.Stmt{
			{Op: api.SLet, Name: "x", Exprs: []api.Expr{tallied(api.XCount, "r", "t1", tallied(api.XSum, "q", "t0", yes(), num(1)))}},
			{Op: api.SSet, Name: "x", Exprs: []api.Expr{op(api.XAdd, num(1), op(api.XNeg, num(2)))}},
			{Op: api.SInsert, Src: "t2", Exprs: one},
			{Op: api.SUpdate, Name: "r", Src: "t3", Cols: []string{"a", "b"}, Exprs: []api.Expr{yes(), num(1), num(2)}},
			{Op: api.SFor, Name: "r", Src: "w", N: 1000, Exprs: []api.Expr{yes()}, Body: []api.Stmt{{Op: api.SDelete, Name: "d", Src: "t2", Exprs: []api.Expr{yes()}}}},
			{Op: api.SIf, Exprs: []api.Expr{yes()}, Body: []api.Stmt{{Op: api.SEmit, Src: "out", Exprs: one}}, Else: []api.Stmt{{Op: api.SEmit, Src: "mid", Exprs: one}, {Op: api.SEmit, Src: "out", Exprs: one}}},
			{Op: api.SAbort, Exprs: one},
			{Op: api.SReply, Exprs: []api.Expr{num(1), {Op: api.XVar, Name: "a"}, {Op: api.XCol, Name: "r", S: "c"}, {Op: api.XText, S: strings.Repeat("'", 200)}}},
		},
	}
}

// P12.1
func TestReservedFree(t *testing.T) {
	words := strings.Fields("and or not true false let set insert update delete for in where limit if else emit abort reply count sum min max int text bool table stream window sink proc key unique index parts by on from at fuel tuples batches slide")
	if len(words) != 43 {
		t.Error(len(words))
	}
	for _, w := range words {
		if !Reserved(w) || Free("a", w) {
			t.Error(w)
		}
	}
	if Reserved("batch") || Reserved("") || Reserved("And") || Reserved("procs") || !Free() || !Free("batch", "x_1") || Free("") || Free("X") || Free("abcdefghijklmnopq") {
		t.Error("free names")
	}
}

// P12.1
func TestSizes(t *testing.T) {
	size := func(n, d int) [2]int { return [2]int{n, d} }
	if got := size(SizeExpr(api.Expr{})); got != size(1, 1) {
		t.Error(got)
	}
	if got := size(SizeExpr(op(77, num(1), op(0, num(2), num(3), num(4))))); got != size(6, 3) {
		t.Error("of any", got)
	}
	if got := size(Size(api.Proc{})); got != size(0, 0) {
		t.Error("an empty body", got)
	}
	if got := size(Size(whole())); got != size(35, 4) {
		t.Error(got)
	}
	loop := func(l ...api.Stmt) api.Stmt { return api.Stmt{Op: api.SFor, Body: l} }
	other := func(l ...api.Stmt) api.Stmt { return api.Stmt{Op: api.SIf, Else: l} }
	if got := size(Size(api.Proc{Body: []api.Stmt{loop(loop(loop()))}})); got != size(3, 3) {
		t.Error("bodies", got)
	}
	if got := size(Size(api.Proc{Body: []api.Stmt{other(other(other(other())))}})); got != size(4, 4) {
		t.Error("elses", got)
	}
	for n, want := range map[int][2]int{999: size(999, 999), 1000: size(1000, 1000), 1001: size(1000, 1000), 70000: size(1000, 1000)} {
		if got := size(SizeExpr(deep(n))); got != want {
			t.Error(n, got)
		}
	}
	for n, want := range map[int][2]int{998: size(998, 2), 1000: size(1000, 1000), 5000: size(1000, 1000)} {
		if got := size(Size(wide(n))); got != want {
			t.Error(n, got)
		}
	}
	round := []api.Expr{{Op: api.XNot}}
	round[0].Args = round
	if got := size(SizeExpr(round[0])); got != size(1000, 1000) || RightExpr(round[0]) || SameExpr(round[0], round[0]) {
		t.Error("one that holds itself", got)
	}
}

// P12.1
func TestRightExpr(t *testing.T) {
	v := api.Expr{Op: api.XVar, Name: "a"}
	for _, e := range []api.Expr{num(0), {Op: api.XText}, {Op: api.XText, S: strings.Repeat("\n", 200)}, {Op: api.XBool}, yes(), v, {Op: api.XCol, Name: "a", S: "b"}, op(api.XNot, v), op(api.XNeg, v),
		tallied(api.XCount, "r", "t", v), tallied(api.XSum, "r", "t", v, v), tallied(api.XMin, "r", "t", v, v), tallied(api.XMax, "r", "batch", v, v), deep(12)} {
		if !RightExpr(e) {
			t.Errorf("%v", e)
		}
	}
	for o := api.XAdd; o <= api.XOr; o++ {
		if !RightExpr(op(o, v, v)) || RightExpr(op(o, v)) || RightExpr(op(o, v, v, v)) || RightExpr(op(o, v, num(-1))) {
			t.Error(o)
		}
		if e := op(o, v, v); RightExpr(api.Expr{Op: o, N: 1, Args: e.Args}) || RightExpr(api.Expr{Op: o, S: "x", Args: e.Args}) || RightExpr(api.Expr{Op: o, Name: "x", Args: e.Args}) || RightExpr(api.Expr{Op: o, Src: "x", Args: e.Args}) {
			t.Error(o)
		}
	}
	for _, e := range []api.Expr{{}, op(25, v), op(-1, v), num(-1), {Op: api.XInt, S: "x"}, {Op: api.XInt, Name: "x"}, {Op: api.XInt, Src: "x"}, op(api.XInt, v), {Op: api.XText, S: strings.Repeat("x", 201)},
		{Op: api.XText, N: 1}, {Op: api.XText, Name: "x"}, {Op: api.XBool, N: 2}, {Op: api.XBool, N: -1}, {Op: api.XBool, S: "x"}, {Op: api.XVar}, {Op: api.XVar, Name: "if"}, {Op: api.XVar, Name: "a", N: 1}, {Op: api.XVar, Name: "a", S: "x"},
		{Op: api.XVar, Name: "a", Src: "x"}, op(api.XVar, v), {Op: api.XCol, Name: "a"}, {Op: api.XCol, S: "a"}, {Op: api.XCol, Name: "a", S: "by"}, {Op: api.XCol, Name: "a", S: "b", N: 1}, {Op: api.XCol, Name: "a", S: "b", Src: "x"},
		op(api.XNot), op(api.XNot, v, v), op(api.XNeg), {Op: api.XNeg, N: 1, Args: []api.Expr{v}}, tallied(api.XCount, "", "t", v), tallied(api.XCount, "r", "", v), tallied(api.XCount, "r", "t"), tallied(api.XCount, "r", "t", v, v),
		tallied(api.XCount, "in", "t", v), tallied(api.XSum, "r", "t", v), tallied(api.XMax, "r", "t", v, v, v), {Op: api.XCount, Name: "r", Src: "t", S: "x", Args: []api.Expr{v}}, {Op: api.XMin, Name: "r", Src: "t", N: 1, Args: []api.Expr{v, v}}, deep(13)} {
		if RightExpr(e) {
			t.Errorf("%v", e)
		}
	}
}

// P12.1
func TestRight(t *testing.T) {
	if !Right(whole()) || !Right(api.Proc{Name: "p", From: "s", Fuel: 1}) || !Right(wide(300)) || Right(wide(302)) {
		t.Error("right")
	}
	if p := whole(); true {
		p.Body[7].Exprs[0] = deep(11)
		if !Right(p) {
			t.Error("12 deep")
		}
		if p.Body[7].Exprs[0] = deep(12); Right(p) {
			t.Error("13 deep")
		}
	}
	for what, change := range map[string]func(p *api.Proc){
		"name":            func(p *api.Proc) { p.Name = "proc" },
		"fuel 0":          func(p *api.Proc) { p.Fuel = 0 },
		"fuel 2001":       func(p *api.Proc) { p.Fuel = 2001 },
		"at":              func(p *api.Proc) { p.At = "c" },
		"from and params": func(p *api.Proc) { p.At, p.From = "", "s" },
		"from and at":     func(p *api.Proc) { p.Params, p.From = nil, "s" },
		"from":            func(p *api.Proc) { p.Params, p.At, p.From = nil, "", "S" },
		"same params":     func(p *api.Proc) { p.Params[1].Name = "a" },
		"param's name":    func(p *api.Proc) { p.Params[1].Name = "key" },
		"kind 0":          func(p *api.Proc) { p.Params[1].Kind = 0 },
		"kind 4":          func(p *api.Proc) { p.Params[1].Kind = 4 },
		"nine params": func(p *api.Proc) {
			for _, c := range "cdefghi" {
				p.Params = append(p.Params, api.Column{Name: string(c), Kind: 1})
			}
		},
		"op 0":           func(p *api.Proc) { p.Body[0].Op = 0 },
		"op 11":          func(p *api.Proc) { p.Body[0].Op = 11 },
		"let's name":     func(p *api.Proc) { p.Body[0].Name = "" },
		"let's src":      func(p *api.Proc) { p.Body[0].Src = "x" },
		"let's n":        func(p *api.Proc) { p.Body[0].N = 1 },
		"let's cols":     func(p *api.Proc) { p.Body[0].Cols = []string{"a"} },
		"let's exprs":    func(p *api.Proc) { p.Body[0].Exprs = nil },
		"let's body":     func(p *api.Proc) { p.Body[0].Body = wide(2).Body },
		"set of two":     func(p *api.Proc) { p.Body[1].Exprs = append(p.Body[1].Exprs, num(1)) },
		"insert's name":  func(p *api.Proc) { p.Body[2].Name = "x" },
		"insert's src":   func(p *api.Proc) { p.Body[2].Src = "" },
		"insert nothing": func(p *api.Proc) { p.Body[2].Exprs = nil },
		"insert nine": func(p *api.Proc) {
			p.Body[2].Exprs = make([]api.Expr, 9)
			for i := range 9 {
				p.Body[2].Exprs[i] = num(1)
			}
		},
		"update's cols":   func(p *api.Proc) { p.Body[3].Cols[1] = "a" },
		"update's exprs":  func(p *api.Proc) { p.Body[3].Exprs = p.Body[3].Exprs[:2] },
		"update nothing":  func(p *api.Proc) { p.Body[3].Cols, p.Body[3].Exprs = nil, p.Body[3].Exprs[:1] },
		"update reserved": func(p *api.Proc) { p.Body[3].Cols[1] = "limit" },
		"update's name":   func(p *api.Proc) { p.Body[3].Name = "" },
		"for's n below":   func(p *api.Proc) { p.Body[4].N = -1 },
		"for's n above":   func(p *api.Proc) { p.Body[4].N = 1001 },
		"for's else":      func(p *api.Proc) { p.Body[4].Else = wide(2).Body },
		"for's src":       func(p *api.Proc) { p.Body[4].Src = "" },
		"for's two":       func(p *api.Proc) { p.Body[4].Exprs = []api.Expr{yes(), yes()} },
		"delete's name":   func(p *api.Proc) { p.Body[4].Body[0].Name = "" },
		"if's name":       func(p *api.Proc) { p.Body[5].Name = "x" },
		"if's n":          func(p *api.Proc) { p.Body[5].N = 1 },
		"if's exprs":      func(p *api.Proc) { p.Body[5].Exprs = nil },
		"in an else":      func(p *api.Proc) { p.Body[5].Else[1].Src = "" },
		"abort's src":     func(p *api.Proc) { p.Body[6].Src = "x" },
		"abort of two":    func(p *api.Proc) { p.Body[6].Exprs = []api.Expr{num(1), num(1)} },
		"reply nothing":   func(p *api.Proc) { p.Body[7].Exprs = nil },
		"reply's name":    func(p *api.Proc) { p.Body[7].Name = "x" },
		"an expression":   func(p *api.Proc) { p.Body[7].Exprs[0].N = -1 },
	} {
		p := Copy(whole())
		if change(&p); Right(p) || Same(p, whole()) || Reads(p) != nil || Writes(p) != nil || Emits(p) != nil || !Same(Copy(p), api.Proc{}) {
			t.Error(what)
		}
	}
}

// P12.2
func TestReadsWritesEmits(t *testing.T) {
	for want, got := range map[string][]string{"t0 t1 t2 t3 w": Reads(whole()), "t2 t3": Writes(whole()), "mid out": Emits(whole())} {
		if strings.Join(got, " ") != want {
			t.Error(want, got)
		}
	}
}

// P12.2
func TestSameCopy(t *testing.T) {
	p := whole()
	c := Copy(p)
	if !Same(p, c) || !reflect.DeepEqual(p, c) {
		t.Error("a copy is the same")
	}
	c.Params[0].Name, c.Body[0].Name, c.Body[3].Cols[0], c.Body[1].Exprs[0].Args[0].N, c.Body[4].Body[0].Src, c.Body[5].Else[0].Src = "z", "z", "z", 9, "z", "z"
	if !Same(p, whole()) {
		t.Error("it shares memory")
	}
	e := op(api.XAdd, num(1), tallied(api.XSum, "r", "t", yes(), num(3)))
	for _, change := range []func(*api.Expr){func(e *api.Expr) { e.Op++ }, func(e *api.Expr) { e.N++ }, func(e *api.Expr) { e.S = "x" }, func(e *api.Expr) { e.Name = "x" }, func(e *api.Expr) { e.Src = "x" }, func(e *api.Expr) { e.Args = nil }, func(e *api.Expr) { e.Args = []api.Expr{yes(), num(4)} }} {
		x := op(api.XAdd, num(1), tallied(api.XSum, "r", "t", yes(), num(3)))
		if !SameExpr(e, x) {
			t.Error("the same")
		}
		if change(&x.Args[1]); SameExpr(e, x) {
			t.Error("not the same")
		}
	}
	if !SameExpr(api.Expr{Args: []api.Expr{}}, api.Expr{}) || !Same(api.Proc{Body: []api.Stmt{{Cols: []string{}}}}, api.Proc{Body: []api.Stmt{{Else: []api.Stmt{}}}}) {
		t.Error("nil and empty lists are one")
	}
}
