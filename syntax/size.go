package syntax

import (
	"slices"

	"afflux/api"
)

// many is the size of whatever has as many nodes, or more: no further one is looked at.
const many = 1000

// tally counts nodes, and how deep they lie.
type tally struct {
	nodes, depth int
}

// enter counts a node at a depth; false: there are too many already.
func (t *tally) enter(depth int) bool {
	t.nodes++
	t.depth = max(t.depth, depth)
	return t.nodes < many
}

func (t *tally) exprs(l []api.Expr, depth int) bool {
	for _, e := range l {
		if !t.enter(depth) || !t.exprs(e.Args, depth+1) {
			return false
		}
	}
	return true
}

func (t *tally) stmts(l []api.Stmt, depth int) bool {
	for _, s := range l {
		if !t.enter(depth) || !t.exprs(s.Exprs, depth+1) || !t.stmts(s.Body, depth+1) || !t.stmts(s.Else, depth+1) {
			return false
		}
	}
	return true
}

// size is what was counted, if all was.
func (t *tally) size(all bool) (int, int) {
	if !all {
		return many, many
	}
	return t.nodes, t.depth
}

// SizeExpr is an expression's nodes and depth.
func SizeExpr(e api.Expr) (int, int) {
	var t tally
	return t.size(t.exprs([]api.Expr{e}, 1))
}

// Size is a procedure's nodes and depth.
func Size(p api.Proc) (int, int) {
	var t tally
	return t.size(t.stmts(p.Body, 1))
}

// SameExpr tells whether two expressions are the same.
func SameExpr(a, b api.Expr) bool {
	n, _ := SizeExpr(a)
	m, _ := SizeExpr(b)
	return n == m && n < many && sameExpr(a, b)
}

func sameExpr(a, b api.Expr) bool {
	return a.Op == b.Op && a.N == b.N && a.S == b.S && a.Name == b.Name && a.Src == b.Src && slices.EqualFunc(a.Args, b.Args, sameExpr)
}

// Same tells whether two procedures are the same.
func Same(a, b api.Proc) bool {
	n, _ := Size(a)
	m, _ := Size(b)
	return n == m && n < many && a.Name == b.Name && a.From == b.From && a.At == b.At && a.Fuel == b.Fuel &&
		slices.Equal(a.Params, b.Params) && slices.EqualFunc(a.Body, b.Body, sameStmt)
}

func sameStmt(a, b api.Stmt) bool {
	return a.Op == b.Op && a.Name == b.Name && a.Src == b.Src && a.N == b.N && slices.Equal(a.Cols, b.Cols) &&
		slices.EqualFunc(a.Exprs, b.Exprs, sameExpr) && slices.EqualFunc(a.Body, b.Body, sameStmt) && slices.EqualFunc(a.Else, b.Else, sameStmt)
}

// Reads is what a procedure reads.
func Reads(p api.Proc) []string {
	return sources(p, readsSource, true)
}

// Writes is what a procedure writes.
func Writes(p api.Proc) []string {
	return sources(p, writesSource, false)
}

// Emits is where a procedure emits.
func Emits(p api.Proc) []string {
	return sources(p, emitsSource, false)
}

func readsSource(s api.Stmt) bool {
	return s.Op == api.SUpdate || s.Op == api.SDelete || s.Op == api.SFor
}

func writesSource(s api.Stmt) bool {
	return s.Op == api.SInsert || s.Op == api.SUpdate || s.Op == api.SDelete
}

func emitsSource(s api.Stmt) bool {
	return s.Op == api.SEmit
}

// sources is the names in Src of some statements of a right procedure, and perhaps of its expressions, rising, each once.
func sources(p api.Proc, of func(api.Stmt) bool, exprs bool) []string {
	if !Right(p) {
		return nil
	}
	l := stmtSources(nil, p.Body, of, exprs)
	slices.Sort(l)
	return slices.Compact(l)
}

func stmtSources(l []string, body []api.Stmt, of func(api.Stmt) bool, exprs bool) []string {
	for _, s := range body {
		if of(s) {
			l = append(l, s.Src)
		}
		if exprs {
			l = exprSources(l, s.Exprs)
		}
		l = stmtSources(stmtSources(l, s.Body, of, exprs), s.Else, of, exprs)
	}
	return l
}

func exprSources(l []string, exprs []api.Expr) []string {
	for _, e := range exprs {
		if e.Src != "" {
			l = append(l, e.Src)
		}
		l = exprSources(l, e.Args)
	}
	return l
}
