package eval

import (
	"slices"

	"afflux/api"
	"afflux/calc"
	"afflux/value"
)

// eval is what a right expression is.
func (v *Env) eval(e api.Expr) (api.Value, api.Errno) {
	if !v.Spend(1) {
		return api.Value{}, api.ErrFuel
	}
	switch e.Op {
	case api.XInt:
		return value.Int(e.N), api.OK
	case api.XText:
		return value.Text(e.S), api.OK
	case api.XBool:
		return value.Bool(e.N == 1), api.OK
	case api.XVar:
		return v.variable(e.Name)
	case api.XCol:
		return v.column(e.Name, e.S)
	case api.XAnd:
		return v.early(e, 0)
	case api.XOr:
		return v.early(e, 1)
	case api.XNot, api.XNeg:
		return v.one(e)
	case api.XCount, api.XSum, api.XMin, api.XMax:
		return v.tally(e)
	}
	return v.two(e)
}

func (v *Env) variable(name string) (api.Value, api.Errno) {
	k := v.last(name, knownValue, knownRow)
	if k == nil || k.role != knownValue {
		return api.Value{}, api.ErrType
	}
	return k.value, api.OK
}

func (v *Env) column(row, name string) (api.Value, api.Errno) {
	k := v.last(row, knownValue, knownRow)
	if k == nil || k.role != knownRow {
		return api.Value{}, api.ErrType
	}
	i := slices.IndexFunc(k.cols, func(c api.Column) bool { return c.Name == name })
	if i < 0 || i >= len(k.row) {
		return api.Value{}, api.ErrType
	}
	return k.row[i], api.OK
}

// of is what an expression is, that must be of a kind.
func (v *Env) of(e api.Expr, kind int) (api.Value, api.Errno) {
	x, err := v.eval(e)
	if err == api.OK && x.Kind != kind {
		err = api.ErrType
	}
	return x, err
}

// early is and, or: the left one, if it is the truth that settles it, else the right one.
func (v *Env) early(e api.Expr, settles int64) (api.Value, api.Errno) {
	x, err := v.of(e.Args[0], api.KBool)
	if err != api.OK || x.N == settles {
		return x, err
	}
	return v.of(e.Args[1], api.KBool)
}

func (v *Env) one(e api.Expr) (api.Value, api.Errno) {
	if e.Op == api.XNot {
		x, err := v.of(e.Args[0], api.KBool)
		return value.Bool(x.N == 0), err
	}
	x, err := v.of(e.Args[0], api.KInt)
	if err != api.OK {
		return x, err
	}
	n, err := calc.Neg(x.N)
	return value.Int(n), err
}

// two is an operation of two, both of which are looked at ahead of their kinds.
func (v *Env) two(e api.Expr) (api.Value, api.Errno) {
	a, err := v.eval(e.Args[0])
	if err != api.OK {
		return a, err
	}
	b, err := v.eval(e.Args[1])
	if err != api.OK {
		return b, err
	}
	if e.Op >= api.XEq && e.Op <= api.XGt {
		return compare(e.Op, a, b)
	}
	if a.Kind != api.KInt || b.Kind != api.KInt {
		return api.Value{}, api.ErrType
	}
	n, err := compute(e.Op, a.N, b.N)
	return value.Int(n), err
}

func compare(op int, a, b api.Value) (api.Value, api.Errno) {
	if a.Kind != b.Kind || a.Kind == api.KBool && op >= api.XLt {
		return api.Value{}, api.ErrType
	}
	c := value.Cmp(a, b)
	var is bool
	switch op {
	case api.XEq:
		is = c == 0
	case api.XNe:
		is = c != 0
	case api.XLt:
		is = c < 0
	case api.XLe:
		is = c <= 0
	case api.XGe:
		is = c >= 0
	default:
		is = c > 0
	}
	return value.Bool(is), api.OK
}

func compute(op int, a, b int64) (int64, api.Errno) {
	switch op {
	case api.XAdd:
		return calc.Add(a, b)
	case api.XSub:
		return calc.Sub(a, b)
	case api.XMul:
		return calc.Mul(a, b)
	case api.XDiv:
		return calc.Div(a, b)
	}
	return calc.Mod(a, b)
}

// tally is what comes of rows: how many, their sum, the least and the greatest.
type tally struct {
	calc.Total
	least, most int64
}

func (t *tally) add(n int64) {
	if t.Count() == 0 {
		t.least, t.most = n, n
	}
	t.least, t.most = calc.Least(t.least, n), calc.Most(t.most, n)
	t.Put(n)
}

// result is what an op tells of a tally.
func (t *tally) result(op int) (api.Value, api.Errno) {
	switch {
	case op == api.XCount:
		return value.Int(int64(t.Count())), api.OK
	case op == api.XSum:
		n, err := t.Sum()
		return value.Int(n), err
	case t.Count() == 0:
		return api.Value{}, api.ErrNone
	case op == api.XMin:
		return value.Int(t.least), api.OK
	}
	return value.Int(t.most), api.OK
}

func (v *Env) tally(e api.Expr) (api.Value, api.Errno) {
	src := v.last(e.Src, knownSource)
	if src == nil {
		return api.Value{}, api.ErrType
	}
	row := known{role: knownRow, name: e.Name, cols: src.cols}
	var t tally
	ahead := len(v.all)
	defer func() { v.all = v.all[:ahead] }()
	for _, r := range src.rows {
		if !v.Spend(1) {
			return api.Value{}, api.ErrFuel
		}
		row.row = r
		v.all = append(v.all[:ahead], row)
		if err := v.count(e, &t); err != api.OK {
			return api.Value{}, err
		}
	}
	return t.result(e.Op)
}

// count adds the row that is known last to a tally, if it counts.
func (v *Env) count(e api.Expr, t *tally) api.Errno {
	counts, err := v.of(e.Args[0], api.KBool)
	if err != api.OK || counts.N != 1 {
		return err
	}
	var x api.Value
	if e.Op != api.XCount {
		x, err = v.of(e.Args[1], api.KInt)
	}
	if err == api.OK {
		t.add(x.N)
	}
	return err
}
