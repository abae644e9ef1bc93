package machine

import (
	"slices"

	"afflux/api"
	"afflux/schema"
	"afflux/table"
	"afflux/undo"
)

// Out is a row that was emitted.
type Out struct {
	Stream string
	Row    []api.Value
}

// seat is a table on a site, and its schema.
type seat struct {
	*undo.Table
	plan api.Schema
}

// Site is where machines work.
type Site struct {
	catalog api.Catalog
	seats   []seat
	rows    map[string][][]api.Value // of windows, and of batch
	emitted []Out
}

// NewSite is a site of tables.
func NewSite(c api.Catalog, j *undo.Journal, l ...*table.Table) *Site {
	s := &Site{catalog: copyCatalog(c), rows: map[string][][]api.Value{}}
	for i, t := range undo.Track(j, l...) {
		if l[i] != nil {
			s.seats = append(s.seats, seat{Table: t, plan: t.Schema()})
		}
	}
	return s
}

// copyCatalog is a catalog in memory of its own, but for its procedures' insides.
func copyCatalog(c api.Catalog) api.Catalog {
	c.Tables = slices.Clone(c.Tables)
	for i, s := range c.Tables {
		c.Tables[i] = schema.Copy(s)
	}
	c.Streams, c.Sinks = copyStreams(c.Streams), copyStreams(c.Sinks)
	c.Windows, c.Procs = slices.Clone(c.Windows), slices.Clone(c.Procs)
	return c
}

func copyStreams(l []api.Stream) []api.Stream {
	l = slices.Clone(l)
	for i, s := range l {
		l[i].Cols = slices.Clone(s.Cols)
	}
	return l
}

func copyRows(l [][]api.Value) [][]api.Value {
	var all [][]api.Value
	for _, row := range l {
		all = append(all, slices.Clone(row))
	}
	return all
}

// seat is the first table of a name; nil: there is none.
func (s *Site) seat(name string) *seat {
	i := slices.IndexFunc(s.seats, func(x seat) bool { return x.plan.Name == name })
	if i < 0 {
		return nil
	}
	return &s.seats[i]
}

// Source lets a window, or batch, have rows.
func (s *Site) Source(name string, rows ...[]api.Value) *Site {
	if s == nil {
		return nil
	}
	if s.rows == nil { // of a site that NewSite didn't make
		s.rows = map[string][][]api.Value{}
	}
	s.rows[name] = copyRows(rows)
	return s
}

// Emitted is what was emitted into some streams.
func (s *Site) Emitted(streams ...string) []Out {
	if s == nil {
		return nil
	}
	var l []Out
	for _, o := range s.emitted {
		if len(streams) == 0 || slices.Contains(streams, o.Stream) {
			l = append(l, Out{Stream: o.Stream, Row: slices.Clone(o.Row)})
		}
	}
	return l
}

// emit notes a row that is emitted; false: there are as many into that stream as may be.
func (s *Site) emit(stream string, row []api.Value) bool {
	n := 0
	for _, o := range s.emitted {
		if o.Stream == stream {
			n++
		}
	}
	if n >= api.MaxBatch {
		return false
	}
	s.emitted = append(s.emitted, Out{Stream: stream, Row: row})
	return true
}

// Clear lets nothing be emitted.
func (s *Site) Clear() *Site {
	if s != nil {
		s.emitted = nil
	}
	return s
}
