package types

import (
	"slices"

	"afflux/api"
)

// What stands in scope is one of these.
const (
	param = iota
	letName
	rowName
)

// known is what stands in scope: a parameter, what was let, or a row (without a kind, with columns).
type known struct {
	api.Column
	role int
	cols []api.Column
}

// scope is what stands in scope at a place of a procedure.
type scope struct {
	catalog api.Catalog
	proc    api.Proc
	all     []known
}

func newScope(c api.Catalog, p api.Proc) *scope {
	s := &scope{catalog: c, proc: p}
	for _, x := range p.Params {
		s.all = append(s.all, known{Column: x, role: param})
	}
	return s
}

func (s *scope) find(name string) (known, bool) {
	return find(s.all, func(k known) bool { return k.Name == name })
}

func (s *scope) has(name string) bool {
	_, ok := s.find(name)
	return ok
}

// withRow does something while a row of some columns is in scope.
func (s *scope) withRow(name string, cols []api.Column, do func()) {
	s.all = append(s.all, known{Column: api.Column{Name: name}, role: rowName, cols: cols})
	do()
	s.all = s.all[:len(s.all)-1]
}

// kind is the kind of an expression; 0: it has none.
func (s *scope) kind(e api.Expr) int {
	switch e.Op {
	case api.XInt:
		return api.KInt
	case api.XText:
		return api.KText
	case api.XBool:
		return api.KBool
	case api.XVar:
		return s.variable(e.Name)
	case api.XCol:
		return s.column(e.Name, e.S)
	case api.XCount, api.XSum, api.XMin, api.XMax:
		return s.tally(e)
	}
	var kinds []int
	for _, x := range e.Args {
		kinds = append(kinds, s.kind(x))
	}
	return operation(e.Op, kinds)
}

// variable is the kind of a value of a name; rows have none.
func (s *scope) variable(name string) int {
	k, _ := s.find(name)
	if k.role == rowName {
		return 0
	}
	return k.Kind
}

// column is the kind of a row's column.
func (s *scope) column(row, name string) int {
	k, _ := s.find(row)
	c, _ := column(k.cols, name)
	return c.Kind
}

// operation is the kind of an operation of operands of some kinds.
func operation(op int, kinds []int) int {
	first := kinds[0]
	for _, k := range kinds {
		if k == 0 || k != first {
			return 0
		}
	}
	switch op {
	case api.XAdd, api.XSub, api.XMul, api.XDiv, api.XMod, api.XNeg:
		if first == api.KInt {
			return api.KInt
		}
	case api.XEq, api.XNe:
		return api.KBool
	case api.XLt, api.XLe, api.XGe, api.XGt:
		if first != api.KBool {
			return api.KBool
		}
	default:
		if first == api.KBool {
			return api.KBool
		}
	}
	return 0
}

// tally is the kind of a count, a sum, or the least or greatest of rows.
func (s *scope) tally(e api.Expr) int {
	cols, ok := Cols(s.catalog, s.proc, e.Src)
	if !ok || s.has(e.Name) {
		return 0
	}
	kind := 0
	s.withRow(e.Name, cols, func() {
		if s.kind(e.Args[0]) == api.KBool && (e.Op == api.XCount || s.kind(e.Args[1]) == api.KInt) {
			kind = api.KInt
		}
	})
	return kind
}

// fault is the path of the first statement of a block that doesn't fit; its places begin with a number.
func (s *scope) fault(block []api.Stmt, first int) ([]int, bool) {
	ahead := len(s.all)
	defer func() { s.all = s.all[:ahead] }()
	for i, x := range block {
		if !s.fits(x) {
			return []int{first + i}, true
		}
		if path, bad := s.within(x); bad {
			return append([]int{first + i}, path...), true
		}
		if x.Op == api.SLet {
			s.all = append(s.all, known{Column: api.Column{Name: x.Name, Kind: s.kind(x.Exprs[0])}, role: letName})
		}
	}
	return nil, false
}

// within is the path of the first statement within one that doesn't fit.
func (s *scope) within(x api.Stmt) ([]int, bool) {
	if x.Op != api.SFor {
		path, bad := s.fault(x.Body, 0)
		if !bad {
			path, bad = s.fault(x.Else, len(x.Body))
		}
		return path, bad
	}
	var path []int
	bad := false
	cols, _ := Cols(s.catalog, s.proc, x.Src)
	s.withRow(x.Name, cols, func() { path, bad = s.fault(x.Body, 0) })
	return path, bad
}

// fits tells whether a statement's own expressions and names fit.
func (s *scope) fits(x api.Stmt) bool {
	switch x.Op {
	case api.SLet:
		return !s.has(x.Name) && s.kind(x.Exprs[0]) != 0
	case api.SSet:
		k, ok := s.find(x.Name)
		return ok && k.role == letName && s.kind(x.Exprs[0]) == k.Kind
	case api.SInsert:
		t, ok := table(s.catalog, x.Src)
		return ok && s.are(x.Exprs, t.Cols)
	case api.SEmit:
		cols, ok := Row(s.catalog, x.Src)
		return ok && s.are(x.Exprs, cols)
	case api.SUpdate, api.SDelete:
		t, ok := table(s.catalog, x.Src)
		return ok && s.rows(x, t.Cols)
	case api.SFor:
		cols, ok := Cols(s.catalog, s.proc, x.Src)
		return ok && s.rows(x, cols)
	case api.SIf:
		return s.kind(x.Exprs[0]) == api.KBool
	case api.SAbort:
		return s.kind(x.Exprs[0]) == api.KInt
	}
	return !slices.ContainsFunc(x.Exprs, func(e api.Expr) bool { return s.kind(e) == 0 })
}

// are tells whether expressions are of the kinds of columns, in order.
func (s *scope) are(l []api.Expr, cols []api.Column) bool {
	return slices.EqualFunc(l, cols, func(e api.Expr, c api.Column) bool {
		kind := s.kind(e)
		return kind != 0 && kind == c.Kind
	})
}

// rows tells whether what must be true of rows is a truth, and what becomes of columns is of their kinds.
func (s *scope) rows(x api.Stmt, cols []api.Column) bool {
	if s.has(x.Name) {
		return false
	}
	var become []api.Column
	for _, name := range x.Cols {
		c, _ := column(cols, name)
		become = append(become, c)
	}
	ok := false
	s.withRow(x.Name, cols, func() {
		ok = s.kind(x.Exprs[0]) == api.KBool && s.are(x.Exprs[1:], become)
	})
	return ok
}
