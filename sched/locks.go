package sched

import (
	"math"
	"slices"

	"afflux/api"
	"afflux/calc"
	"afflux/catalog"
	"afflux/codec"
	"afflux/flow"
	"afflux/lock"
	"afflux/schema"
	"afflux/syntax"
	"afflux/types"
	"afflux/value"
)

// procedures is the names of a command's procedures, in order.
func procedures(c api.Catalog, x Command) []string {
	var l []string
	switch x.Kind {
	case Batch:
		l, _ = flow.Flow(c, x.Name)
	case Call:
		l, _ = flow.After(c, x.Name)
	}
	return l
}

// Bound is above how many picks a command takes.
func Bound(c api.Catalog, x Command) int {
	n := 4
	for _, name := range procedures(c, x) {
		p, _ := catalog.Proc(c, name)
		n += 3 + p.Fuel
	}
	return n
}

// Locks is a command's locks.
func Locks(c api.Catalog, x Command) []lock.Want {
	if catalog.Check(c) != api.OK || !mayBe(c, x) {
		return nil
	}
	return locks(c, x)
}

// mayBe tells whether a command may be, by the catalog alone.
func mayBe(c api.Catalog, x Command) bool {
	switch x.Kind {
	case Batch:
		return slices.Contains(flow.Borders(c), x.Name)
	case Call:
		return mayCall(c, x) == api.OK
	case Ack:
		return mayAck(c, x) == api.OK
	}
	return false
}

// locks is the locks of a command that may be.
func locks(c api.Catalog, x Command) []lock.Want {
	var l []lock.Want
	write := func(name string) { l = append(l, lock.Want{Name: name, Write: true}) }
	if x.Kind != Call {
		write(x.Name)
	}
	names := procedures(c, x)
	var turns []string // streams that may take their turns
	if x.Kind == Batch {
		turns = []string{x.Name}
	}
	for i, name := range names {
		p, _ := catalog.Proc(c, name)
		var at *api.Value
		if place := slices.IndexFunc(p.Params, func(q api.Column) bool { return q.Name == p.At }); i == 0 && place >= 0 {
			at = &x.Rows[0][place]
		}
		l = append(l, tableLocks(c, p, at)...)
		turns = append(turns, syntax.Emits(p)...)
	}
	for _, w := range c.Windows {
		if slices.Contains(turns, w.On) || slices.Contains(names, w.Owner) {
			write(w.Name)
		}
	}
	for _, s := range c.Sinks {
		if slices.Contains(turns, s.Name) {
			write(s.Name)
		}
	}
	return lock.Union(l)
}

// tableLocks is the locks of the tables of a procedure; at is the argument by which its partitions are told, if there is one (of one partition it tells just that).
func tableLocks(c api.Catalog, p api.Proc, at *api.Value) []lock.Want {
	var l []lock.Want
	add := func(names []string, write bool) {
		for _, name := range names {
			s, ok := types.Table(c, name)
			if ok && write {
				l = append(l, lock.Want{Name: name, Write: true})
			}
			for part := range s.Parts {
				if at == nil || part == value.Spread(*at, s.Parts) {
					l = append(l, lock.Want{Name: name + "." + calc.Print(int64(part)), Write: write})
				}
			}
		}
	}
	add(syntax.Reads(p), false)
	add(syntax.Writes(p), true)
	return l
}

// Encode is a command's bytes.
func Encode(c Command) (string, api.Errno) {
	if c.Kind < Batch || c.Kind > Ack || !schema.Named(c.Name) || c.Id < 0 || len(c.Rows) > api.MaxBatch {
		return "", api.ErrArg
	}
	for _, row := range c.Rows {
		if len(row) > api.MaxCols || !value.Right(row...) {
			return "", api.ErrArg
		}
	}
	return new(codec.Writer).Size(c.Kind, c.Id).Text(c.Name).Rows(c.Rows...).String(), api.OK
}

// Decode is the command of bytes.
func Decode(b string) (Command, api.Errno) {
	r := codec.Read(b)
	c := Command{Kind: r.Size(Ack), Id: r.Size(math.MaxInt), Name: r.Text(api.MaxName), Rows: r.Rows(api.MaxBatch, api.MaxCols)}
	if !r.End() || c.Kind < Batch || !schema.Named(c.Name) {
		return Command{}, api.ErrForm
	}
	return c, api.OK
}
