package machine_test

import (
	"fmt"
	"math/big"
	"math/rand"
	"reflect"
	"slices"
	"strings"
	"testing"

	"afflux/api"
	. "afflux/machine"
	"afflux/print"
	"afflux/types"
	"afflux/value"
)

// model does procedures as the words say, all at once: tables are lists, errors are thrown.
type model struct {
	catalog api.Catalog
	proc    api.Proc
	tables  map[string][][]api.Value
	windows map[string][][]api.Value
	fuel    int
	values  map[string]api.Value
	rows    map[string][]api.Value
	cols    map[string][]api.Column
	at      *api.Value
	out     []Out
	reply   []api.Value
	code    int64
}

func (m *model) spend() {
	if m.fuel == 0 {
		panic(api.ErrFuel)
	}
	m.fuel--
}

func number(n *big.Int) api.Value {
	if !n.IsInt64() {
		panic(api.ErrRange)
	}
	return value.Int(n.Int64())
}

func (m *model) source(name string) ([]api.Column, [][]api.Value) {
	cols, _ := types.Cols(m.catalog, m.proc, name)
	l, ok := m.tables[name]
	if !ok {
		return cols, m.windows[name]
	}
	slices.SortFunc(l, func(a, b []api.Value) int { return value.Cmp(a[0], b[0]) })
	t, _ := types.Table(m.catalog, name)
	var seen [][]api.Value
	for _, r := range l {
		if m.at == nil || t.Parts == 1 || value.Spread(r[t.By], t.Parts) == value.Spread(*m.at, t.Parts) {
			seen = append(seen, slices.Clone(r))
		}
	}
	return cols, seen
}

func (m *model) eval(e api.Expr) api.Value {
	m.spend()
	switch e.Op {
	case api.XInt:
		return value.Int(e.N)
	case api.XText:
		return value.Text(e.S)
	case api.XBool:
		return value.Bool(e.N == 1)
	case api.XVar:
		return m.values[e.Name]
	case api.XCol:
		return m.rows[e.Name][slices.IndexFunc(m.cols[e.Name], func(c api.Column) bool { return c.Name == e.S })]
	case api.XAnd:
		return value.Bool(m.eval(e.Args[0]).N == 1 && m.eval(e.Args[1]).N == 1)
	case api.XOr:
		return value.Bool(m.eval(e.Args[0]).N == 1 || m.eval(e.Args[1]).N == 1)
	case api.XNot:
		return value.Bool(m.eval(e.Args[0]).N == 0)
	case api.XNeg:
		return number(new(big.Int).Neg(big.NewInt(m.eval(e.Args[0]).N)))
	case api.XCount, api.XSum, api.XMin, api.XMax:
		return m.tally(e)
	}
	a, b := m.eval(e.Args[0]), m.eval(e.Args[1])
	x, y := big.NewInt(a.N), big.NewInt(b.N)
	c := value.Cmp(a, b)
	switch e.Op {
	case api.XAdd:
		return number(x.Add(x, y))
	case api.XSub:
		return number(x.Sub(x, y))
	case api.XMul:
		return number(x.Mul(x, y))
	case api.XDiv, api.XMod:
		if b.N == 0 {
			panic(api.ErrZero)
		}
		q := new(big.Int).Quo(x, y)
		if r := new(big.Int).Rem(x, y); r.Sign()*y.Sign() < 0 {
			q.Sub(q, big.NewInt(1))
		}
		if e.Op == api.XDiv {
			return number(q)
		}
		return number(x.Sub(x, q.Mul(q, y)))
	}
	return value.Bool([]bool{c == 0, c != 0, c < 0, c <= 0, c >= 0, c > 0}[e.Op-api.XEq])
}

func (m *model) know(name string, cols []api.Column, row []api.Value) {
	m.rows[name], m.cols[name] = row, cols
}

func (m *model) tally(e api.Expr) api.Value {
	cols, rows := m.source(e.Src)
	var l []*big.Int
	for _, r := range rows {
		m.spend()
		m.know(e.Name, cols, r)
		if m.eval(e.Args[0]).N == 1 {
			l = append(l, big.NewInt(0))
			if e.Op != api.XCount {
				l[len(l)-1] = big.NewInt(m.eval(e.Args[1]).N)
			}
		}
	}
	switch e.Op {
	case api.XCount:
		return value.Int(int64(len(l)))
	case api.XSum:
		sum := new(big.Int)
		for _, n := range l {
			sum.Add(sum, n)
		}
		return number(sum)
	}
	if len(l) == 0 {
		panic(api.ErrNone)
	}
	slices.SortFunc(l, (*big.Int).Cmp)
	if e.Op == api.XMin {
		return number(l[0])
	}
	return number(l[len(l)-1])
}

func (m *model) all(l []api.Expr) []api.Value {
	var values []api.Value
	for _, e := range l {
		values = append(values, m.eval(e))
	}
	return values
}

func (m *model) part(table string, row []api.Value) {
	t, _ := types.Table(m.catalog, table)
	if m.at != nil && t.Parts > 1 && value.Spread(row[t.By], t.Parts) != value.Spread(*m.at, t.Parts) {
		panic(api.ErrPart)
	}
}

func (m *model) find(table string, key api.Value) int {
	return slices.IndexFunc(m.tables[table], func(r []api.Value) bool { return r[0] == key })
}

// picked is the rows for which a statement's first is true; each does something while one is known.
func (m *model) picked(s api.Stmt, each func(row []api.Value)) {
	cols, rows := m.source(s.Src)
	n := 0
	for _, r := range rows {
		if s.N > 0 && n == s.N {
			return
		}
		m.spend()
		m.know(s.Name, cols, r)
		if m.eval(s.Exprs[0]).N == 1 {
			n++
			each(r)
		}
	}
}

func (m *model) block(l []api.Stmt) {
	for _, s := range l {
		m.spend()
		m.stmt(s)
	}
}

func (m *model) stmt(s api.Stmt) {
	switch s.Op {
	case api.SLet, api.SSet:
		m.values[s.Name] = m.eval(s.Exprs[0])
	case api.SInsert:
		row := m.all(s.Exprs)
		m.part(s.Src, row)
		if m.find(s.Src, row[0]) >= 0 {
			panic(api.ErrTwice)
		}
		if t, _ := types.Table(m.catalog, s.Src); len(m.tables[s.Src]) == t.Limit {
			panic(api.ErrLimit)
		}
		m.tables[s.Src] = append(m.tables[s.Src], row)
	case api.SUpdate:
		m.update(s)
	case api.SDelete:
		var keys []api.Value
		m.picked(s, func(r []api.Value) { keys = append(keys, r[0]) })
		for _, k := range keys {
			i := m.find(s.Src, k)
			m.tables[s.Src] = slices.Delete(m.tables[s.Src], i, i+1)
		}
	case api.SFor:
		var rows [][]api.Value
		m.picked(s, func(r []api.Value) { rows = append(rows, r) })
		cols, _ := m.source(s.Src)
		for _, r := range rows {
			m.know(s.Name, cols, r)
			m.block(s.Body)
		}
	case api.SIf:
		if m.eval(s.Exprs[0]).N == 1 {
			m.block(s.Body)
		} else {
			m.block(s.Else)
		}
	case api.SEmit:
		row := m.all(s.Exprs)
		n := 0
		for _, o := range m.out {
			if o.Stream == s.Src {
				n++
			}
		}
		if n == api.MaxBatch {
			panic(api.ErrLong)
		}
		m.out = append(m.out, Out{Stream: s.Src, Row: row})
	case api.SAbort:
		m.code = m.eval(s.Exprs[0]).N
		panic(api.ErrAbort)
	default:
		m.reply = m.all(s.Exprs)
	}
}

func (m *model) update(s api.Stmt) {
	t, _ := types.Table(m.catalog, s.Src)
	var keys []api.Value
	var rows [][]api.Value
	m.picked(s, func(r []api.Value) {
		become := m.all(s.Exprs[1:])
		n := slices.Clone(r)
		for i, c := range s.Cols {
			n[slices.IndexFunc(t.Cols, func(x api.Column) bool { return x.Name == c })] = become[i]
		}
		keys, rows = append(keys, r[0]), append(rows, n)
	})
	for i, k := range keys {
		m.part(s.Src, rows[i])
		at := m.find(s.Src, k)
		if at < 0 {
			panic(api.ErrNone)
		}
		if other := m.find(s.Src, rows[i][0]); other >= 0 && other != at {
			panic(api.ErrTwice)
		}
		m.tables[s.Src][at] = rows[i]
	}
}

// run does the procedure, and answers the error that stopped it.
func (m *model) run(args []api.Value) (e api.Errno) {
	defer func() {
		if x := recover(); x != nil {
			e = x.(api.Errno)
		}
	}()
	for i, c := range m.proc.Params {
		m.values[c.Name] = args[i]
		if c.Name == m.proc.At {
			m.at = &args[i]
		}
	}
	m.block(m.proc.Body)
	return api.OK
}

// writer writes procedures that mostly fit.
type writer struct {
	r     *rand.Rand
	names int
	scope []api.Column // values, and rows with kind 0 - a source's place
}

var sources = []struct {
	name string
	cols []api.Column
}{{"t", []api.Column{{Name: "a", Kind: 1}}}, {"u", []api.Column{{Name: "a", Kind: 1}, {Name: "b", Kind: 1}, {Name: "c", Kind: 3}}}, {"w", []api.Column{{Name: "x", Kind: 1}, {Name: "ok", Kind: 3}}}}

func (w *writer) fresh(front string) string {
	w.names++
	return fmt.Sprint(front, w.names)
}

// leaf is something in scope of a kind, or what it is at once.
func (w *writer) leaf(kind int) api.Expr {
	var l []api.Expr
	for _, x := range w.scope {
		if x.Kind == kind {
			l = append(l, api.Expr{Op: api.XVar, Name: x.Name})
		}
		if x.Kind <= 0 {
			for _, c := range sources[-x.Kind].cols {
				if c.Kind == kind {
					l = append(l, api.Expr{Op: api.XCol, Name: x.Name, S: c.Name})
				}
			}
		}
	}
	if len(l) > 0 && w.r.Intn(4) > 0 {
		return l[w.r.Intn(len(l))]
	}
	switch kind {
	case api.KInt:
		return api.Expr{Op: api.XInt, N: []int64{0, 1, 2, 3, 5, 1 << 62, 9223372036854775807}[w.r.Intn(5+w.r.Intn(9)/4)]}
	case api.KText:
		return api.Expr{Op: api.XText, S: []string{"", "a", "it's"}[w.r.Intn(3)]}
	}
	return api.Expr{Op: api.XBool, N: int64(1 - w.r.Intn(4)/3)}
}

func (w *writer) expr(kind, deep int) api.Expr {
	if deep <= 0 || kind == api.KText || w.r.Intn(4) == 0 {
		return w.leaf(kind)
	}
	two := func(op, kind int) api.Expr {
		return api.Expr{Op: op, Args: []api.Expr{w.expr(kind, deep-1), w.expr(kind, deep-1)}}
	}
	if kind == api.KInt {
		switch n := w.r.Intn(9); {
		case n < 5:
			return two(api.XAdd+n, api.KInt)
		case n == 5:
			return api.Expr{Op: api.XNeg, Args: []api.Expr{w.expr(kind, deep-1)}}
		}
		return w.tally(deep)
	}
	switch n := w.r.Intn(9); {
	case n < 2:
		return two(api.XEq+n, 1+w.r.Intn(3))
	case n < 6:
		return two(api.XLt+n-2, 1+w.r.Intn(2))
	case n < 8:
		return two(api.XAnd+n-6, api.KBool)
	}
	return api.Expr{Op: api.XNot, Args: []api.Expr{w.expr(kind, deep-1)}}
}

func (w *writer) tally(deep int) api.Expr {
	src := w.r.Intn(len(sources))
	e := api.Expr{Op: api.XCount + w.r.Intn(4), Name: w.fresh("r"), Src: sources[src].name}
	w.scope = append(w.scope, api.Column{Name: e.Name, Kind: -src})
	e.Args = []api.Expr{w.expr(api.KBool, deep-1)}
	if e.Op != api.XCount {
		e.Args = append(e.Args, w.expr(api.KInt, deep-1))
	}
	w.scope = w.scope[:len(w.scope)-1]
	return e
}

func (w *writer) block(deep int) []api.Stmt {
	var l []api.Stmt
	ahead := len(w.scope)
	for range w.r.Intn(5) {
		l = append(l, w.stmt(deep))
	}
	w.scope = w.scope[:ahead]
	return l
}

func (w *writer) stmt(deep int) api.Stmt {
	s := api.Stmt{Op: api.SLet + w.r.Intn(10)}
	kind := 1 + w.r.Intn(3)
	if s.Op == api.SAbort && w.r.Intn(3) > 0 {
		s.Op = api.SReply
	}
	switch s.Op {
	case api.SLet:
		s.Name, s.Exprs = w.fresh("l"), []api.Expr{w.expr(kind, 2)}
		w.scope = append(w.scope, api.Column{Name: s.Name, Kind: kind})
	case api.SSet:
		for _, x := range w.scope {
			if strings.HasPrefix(x.Name, "l") {
				s.Name, s.Exprs = x.Name, []api.Expr{w.expr(x.Kind, 2)}
			}
		}
		if s.Name == "" {
			return api.Stmt{Op: api.SReply, Exprs: []api.Expr{w.expr(kind, 2)}}
		}
	case api.SInsert:
		src := w.r.Intn(2)
		s.Src = sources[src].name
		for _, c := range sources[src].cols {
			s.Exprs = append(s.Exprs, w.expr(c.Kind, 2))
		}
	case api.SEmit:
		s.Src, s.Exprs = []string{"out", "mid"}[w.r.Intn(2)], []api.Expr{w.expr(api.KInt, 2)}
	case api.SAbort:
		s.Exprs = []api.Expr{w.expr(api.KInt, 2)}
	case api.SReply:
		s.Exprs = []api.Expr{w.expr(kind, 2), w.expr(api.KInt, 2)}
	default:
		w.rows(&s, deep)
	}
	return s
}

// rows writes a statement that looks at rows, or has blocks.
func (w *writer) rows(s *api.Stmt, deep int) {
	if s.Op == api.SIf {
		s.Exprs = []api.Expr{w.expr(api.KBool, 2)}
		if deep > 0 {
			s.Body, s.Else = w.block(deep-1), w.block(deep-1)
		}
		return
	}
	src := w.r.Intn(2)
	if s.Op == api.SFor {
		src, s.N = w.r.Intn(3), w.r.Intn(3)
	}
	s.Name, s.Src = w.fresh("r"), sources[src].name
	w.scope = append(w.scope, api.Column{Name: s.Name, Kind: -src})
	defer func() { w.scope = slices.DeleteFunc(w.scope, func(c api.Column) bool { return c.Name == s.Name }) }()
	s.Exprs = []api.Expr{w.expr(api.KBool, 2)}
	if s.Op == api.SUpdate {
		for _, c := range sources[src].cols {
			if w.r.Intn(2) == 0 || c.Name == "a" && len(sources[src].cols) == 1 {
				s.Cols, s.Exprs = append(s.Cols, c.Name), append(s.Exprs, w.expr(c.Kind, 2))
			}
		}
		if len(s.Cols) == 0 {
			s.Op = api.SDelete
		}
	}
	if s.Op == api.SFor && deep > 0 {
		s.Body = w.block(deep - 1)
	}
}

// P17.1 to P17.3, held against the model
func TestAgainstModel(t *testing.T) {
	stops := map[api.Errno]int{}
	for seed := range int64(6000) {
		r := rand.New(rand.NewSource(seed))
		w := &writer{r: r, scope: []api.Column{{Name: "x", Kind: 1}, {Name: "y", Kind: 2}, {Name: "z", Kind: 3}}}
		p := api.Proc{Name: "p", Fuel: 1 + r.Intn(1+r.Intn(2000)), Params: slices.Clone(w.scope), Body: w.block(3)}
		if r.Intn(2) == 0 {
			p.At = "x"
		}
		args := []api.Value{value.Int(r.Int63n(5)), value.Text("a"), value.Bool(r.Intn(2) == 0)}
		world := fresh(t)
		seen := [][]api.Value{{value.Int(5), value.Bool(true)}, {value.Int(-4), value.Bool(false)}, {value.Int(0), value.Bool(true)}}
		world.site.Source("w", seen...)
		machine, e := New(world.site, p, args...)
		if e != api.OK {
			if e != api.ErrArg { // too great
				text, _ := print.Proc(p)
				t.Fatalf("%d\n%s", e, text)
			}
			continue
		}
		m := &model{catalog: some(), proc: p, fuel: p.Fuel, values: map[string]api.Value{}, rows: map[string][]api.Value{}, cols: map[string][]api.Column{},
			tables: map[string][][]api.Value{"t": world.t.Rows(), "u": world.u.Rows()}, windows: map[string][][]api.Value{"w": seen}}
		e = m.run(args)
		stops[e]++
		if e != api.OK {
			m.reply = nil
		}
		m.at = nil
		_, tRows := m.source("t")
		_, uRows := m.source("u")
		if f := machine.Run(); f != e || machine.Left() != m.fuel || machine.Code() != m.code || !slices.Equal(machine.Reply(), m.reply) || !reflect.DeepEqual(world.site.Emitted(), m.out) ||
			!reflect.DeepEqual(world.t.Rows(), tRows) || !reflect.DeepEqual(world.u.Rows(), uRows) {
			text, _ := print.Proc(p)
			t.Fatalf("%v\n%s\n%d, %d left, %v; %d, %d left, %v", args, text, f, machine.Left(), machine.Reply(), e, m.fuel, m.reply)
		}
	}
	if len(stops) < 9 || stops[api.OK] < 1000 {
		t.Error("few kinds of ends", stops)
	}
}
