package machine

import (
	"slices"

	"afflux/api"
	"afflux/schema"
	"afflux/value"
)

// do does a statement.
func (m *Machine) do(s api.Stmt) api.Errno {
	if !m.Spend(1) {
		return api.ErrFuel
	}
	switch s.Op {
	case api.SUpdate:
		return m.update(s)
	case api.SDelete:
		return m.remove(s)
	case api.SFor:
		return m.loop(s)
	}
	l, e := m.worth(s.Exprs)
	if e != api.OK {
		return e
	}
	return m.flat(s, l)
}

// flat does a statement that looks at no rows, whose expressions are worth so much.
func (m *Machine) flat(s api.Stmt, l []api.Value) api.Errno {
	switch s.Op {
	case api.SLet:
		m.Let(s.Name, l[0])
		m.frames[len(m.frames)-1].known++
	case api.SSet:
		m.Set(s.Name, l[0])
	case api.SInsert:
		return m.insert(m.sources[s.Src].seat, l)
	case api.SIf:
		block := s.Else
		if l[0].N != 0 {
			block = s.Body
		}
		m.frames = append(m.frames, frame{block: block})
	case api.SEmit:
		if !m.site.emit(s.Src, l) {
			return api.ErrLong
		}
	case api.SAbort:
		m.code = l[0].N
		return api.ErrAbort
	default:
		m.reply = l
	}
	return api.OK
}

// know lets the place know all sources that expressions name; it answers how many.
func (m *Machine) know(l []api.Expr) int {
	n := 0
	for _, e := range l {
		if e.Src != "" {
			src := m.sources[e.Src]
			m.Source(e.Src, src.cols, m.rows(e.Src)...)
			n++
		}
		n += m.know(e.Args)
	}
	return n
}

// worth is what expressions are.
func (m *Machine) worth(l []api.Expr) ([]api.Value, api.Errno) {
	n := m.know(l)
	all, e := m.All(l...)
	m.Drop(n)
	return all, e
}

// rows is the rows of a source that the machine sees.
func (m *Machine) rows(src string) [][]api.Value {
	x := m.sources[src]
	if x.seat == nil {
		return m.site.rows[src]
	}
	if part, only := m.part(x.seat); only {
		return x.Rows(part)
	}
	return x.Rows()
}

// part is the machine's partition of a table; false: all of it is seen.
func (m *Machine) part(s *seat) (int, bool) {
	if !m.parted || s.plan.Parts <= 1 {
		return 0, false
	}
	return value.Spread(m.at, s.plan.Parts), true
}

// outside tells whether a value that tells a row's partition lies outside of the machine's.
func (m *Machine) outside(s *seat, by api.Value) bool {
	part, only := m.part(s)
	return only && value.Spread(by, s.plan.Parts) != part
}

// each does something for each row that a statement picks, while the row is known; for at most so many, if most isn't 0.
func (m *Machine) each(s api.Stmt, most int, do func(row []api.Value) api.Errno) api.Errno {
	cols, picked := m.sources[s.Src].cols, 0
	n := m.know(s.Exprs)
	for _, row := range m.rows(s.Src) {
		if most > 0 && picked == most {
			break
		}
		if !m.Spend(1) {
			return api.ErrFuel
		}
		m.Row(s.Name, cols, row...)
		is, e := m.Eval(s.Exprs[0])
		if e == api.OK && is.N == 1 {
			picked++
			e = do(row)
		}
		if e != api.OK {
			return e
		}
		m.Drop(1)
	}
	m.Drop(n)
	return api.OK
}

func (m *Machine) insert(t *seat, row []api.Value) api.Errno {
	if !schema.Fits(t.plan, row...) {
		return api.ErrType
	}
	if m.outside(t, row[t.plan.By]) {
		return api.ErrPart
	}
	return t.Insert(row...)
}

// change is what becomes of the row of a key.
type change struct {
	key string
	row []api.Value
}

func (m *Machine) update(s api.Stmt) api.Errno {
	t := m.sources[s.Src].seat
	var l []change
	e := m.each(s, 0, func(row []api.Value) api.Errno {
		key, _ := t.Key(row...)
		become, e := m.All(s.Exprs[1:]...)
		row = slices.Clone(row)
		for i, v := range become {
			row[schema.Col(t.plan, s.Cols[i])] = v
		}
		l = append(l, change{key: key, row: row})
		return e
	})
	for _, c := range l {
		if e != api.OK {
			break
		}
		if e = api.ErrPart; !m.outside(t, c.row[t.plan.By]) {
			e = t.Update(c.key, c.row...)
		}
	}
	return e
}

func (m *Machine) remove(s api.Stmt) api.Errno {
	t := m.sources[s.Src].seat
	var l []string
	e := m.each(s, 0, func(row []api.Value) api.Errno {
		key, _ := t.Key(row...)
		l = append(l, key)
		return api.OK
	})
	for _, key := range l {
		if e == api.OK {
			e = t.Delete(key)
		}
	}
	return e
}

func (m *Machine) loop(s api.Stmt) api.Errno {
	var l [][]api.Value
	e := m.each(s, s.N, func(row []api.Value) api.Errno {
		l = append(l, row)
		return api.OK
	})
	if e == api.OK {
		// It stands at its block's end: the first row is still to come.
		m.frames = append(m.frames, frame{block: s.Body, at: len(s.Body), row: s.Name, cols: m.sources[s.Src].cols, rows: l})
	}
	return e
}
