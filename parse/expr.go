package parse

import (
	"afflux/api"
	"afflux/lex"
)

// opOf is the op of a sign or word between two, or of a count.
func opOf(text string) int {
	switch text {
	case "or":
		return api.XOr
	case "and":
		return api.XAnd
	case "=":
		return api.XEq
	case "!=":
		return api.XNe
	case "<":
		return api.XLt
	case "<=":
		return api.XLe
	case ">=":
		return api.XGe
	case ">":
		return api.XGt
	case "+":
		return api.XAdd
	case "-":
		return api.XSub
	case "*":
		return api.XMul
	case "/":
		return api.XDiv
	case "%":
		return api.XMod
	case "count":
		return api.XCount
	case "sum":
		return api.XSum
	case "min":
		return api.XMin
	case "max":
		return api.XMax
	}
	return 0
}

// op takes one of some signs or words, and is its op; 0: none of them comes next.
func (p *parser) op(texts ...string) int {
	if p.Stuck() || !p.Is(texts...) {
		return 0
	}
	text := p.Word().Text
	p.Take(text)
	return opOf(text)
}

func (p *parser) exprs() []api.Expr {
	var l []api.Expr
	p.List(func() { l = append(l, p.expr()) })
	return l
}

// where takes what must be true of rows.
func (p *parser) where() api.Expr {
	if p.Take("where") {
		return p.expr()
	}
	return api.Expr{Op: api.XBool, N: 1}
}

// chain takes what a method takes, with some signs or words between, from the left on.
func (p *parser) chain(part func() api.Expr, texts ...string) api.Expr {
	e := part()
	for op := p.op(texts...); op != 0; op = p.op(texts...) {
		e = api.Expr{Op: op, Args: []api.Expr{e, part()}}
	}
	return e
}

func (p *parser) expr() api.Expr {
	return p.chain(p.both, "or")
}

func (p *parser) both() api.Expr {
	return p.chain(p.opposite, "and")
}

func (p *parser) opposite() api.Expr {
	if p.Take("not") {
		return p.one(api.XNot, p.opposite)
	}
	return p.compared()
}

func (p *parser) compared() api.Expr {
	e := p.sum()
	if op := p.op("=", "!=", "<", "<=", ">=", ">"); op != 0 {
		e = api.Expr{Op: op, Args: []api.Expr{e, p.sum()}}
	}
	return e
}

func (p *parser) sum() api.Expr {
	return p.chain(p.product, "+", "-")
}

func (p *parser) product() api.Expr {
	return p.chain(p.signed, "*", "/", "%")
}

func (p *parser) signed() api.Expr {
	if p.Take("-") {
		return p.one(api.XNeg, p.signed)
	}
	return p.atom()
}

// one takes what a method takes, behind a sign ahead of it.
func (p *parser) one(op int, part func() api.Expr) api.Expr {
	e := api.Expr{Op: op}
	p.within(func() { e.Args = []api.Expr{part()} })
	return e
}

func (p *parser) atom() api.Expr {
	if p.Stuck() {
		return api.Expr{}
	}
	if w, ok := p.Kind(lex.Number); ok {
		return api.Expr{Op: api.XInt, N: w.N}
	}
	if w, ok := p.Kind(lex.Text); ok {
		return api.Expr{Op: api.XText, S: w.Text}
	}
	if p.Take("true") {
		return api.Expr{Op: api.XBool, N: 1}
	}
	if p.Take("false") {
		return api.Expr{Op: api.XBool}
	}
	if op := p.op("count", "sum", "min", "max"); op != 0 {
		return p.tally(op)
	}
	if p.Take("(") {
		return p.inParentheses()
	}
	return p.variable()
}

func (p *parser) inParentheses() api.Expr {
	var e api.Expr
	p.within(func() {
		e = p.expr()
		p.Need(")")
	})
	return e
}

// variable takes a name, or a column of a row.
func (p *parser) variable() api.Expr {
	e := api.Expr{Op: api.XVar, Name: p.Name()}
	if p.Take(".") {
		e.Op, e.S = api.XCol, p.Name()
	}
	return e
}

// tally takes what stands behind count, sum, min or max.
func (p *parser) tally(op int) api.Expr {
	e := api.Expr{Op: op}
	p.Need("(")
	p.within(func() {
		e.Name = p.Name()
		p.Need("in")
		e.Src = p.Name()
		e.Args = []api.Expr{p.where()}
		if op != api.XCount {
			p.Need(":")
			e.Args = append(e.Args, p.expr())
		}
		p.Need(")")
	})
	return e
}
