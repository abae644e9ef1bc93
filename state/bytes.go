package state

import (
	"math"

	"afflux/api"
	"afflux/codec"
	"afflux/stream"
	"afflux/table"
)

// emptyWindow is the bytes of a window to which nothing came.
const emptyWindow = "\x00\x00"

// Bytes is all, laid.
func (s *State) Bytes() string {
	if s == nil {
		return ""
	}
	w := new(codec.Writer)
	for _, x := range s.plan.Tables {
		w.Text(s.tables[x.Name].Bytes())
	}
	for _, x := range s.Windows {
		w.Text(s.windows[x.Name].Bytes())
	}
	for _, name := range s.order() {
		w.Size(s.borders[name].Mark())
	}
	for _, x := range s.Sinks {
		s.exits[x.Name].lay(w)
	}
	return w.String()
}

func (x *exit) lay(w *codec.Writer) {
	w.Size(x.base, len(x.outputs))
	for _, o := range x.outputs {
		w.Size(o.Seq).Row(o.Row...)
	}
}

// Load lets a state be as it was laid.
func (s *State) Load(b string) api.Errno {
	if s == nil {
		return api.ErrArg
	}
	// Another state is tried first, so that this one stays as it was.
	try, _ := New(s.plan.Catalog)
	if !try.fill(b) {
		return api.ErrForm
	}
	s.fill(b)
	return api.OK
}

// fill lets all things be as they were laid; false: they weren't, and some may have changed.
func (s *State) fill(b string) bool {
	r := codec.Read(b)
	for _, x := range s.plan.Tables {
		if text := r.Text(len(b)); r.Good() && !fillTable(s.tables[x.Name], text) {
			r.Fail()
		}
	}
	for _, x := range s.Windows {
		if text := r.Text(len(b)); r.Good() && s.windows[x.Name].Load(text) != api.OK {
			r.Fail()
		}
	}
	for _, name := range s.order() {
		s.borders[name].Set(r.Size(math.MaxInt))
	}
	for _, x := range s.Sinks {
		s.exits[x.Name].fill(r, len(b))
	}
	return r.End()
}

func fillTable(t *table.Table, text string) bool {
	r := codec.Read(text)
	rows := r.Rows(api.MaxRows, api.MaxCols)
	// Rows in another order than that of their keys are laid otherwise.
	return r.End() && t.Load(rows...) == api.OK && t.Bytes() == text
}

func (x *exit) fill(r *codec.Reader, most int) {
	x.base, x.outputs = r.Size(math.MaxInt), nil
	last := 0
	for n := r.Size(min(most, math.MaxInt-x.base)); n > 0 && r.Good(); n-- {
		o := Output{Seq: r.Size(math.MaxInt), Row: r.Row(api.MaxCols)}
		if o.Seq < last || !stream.Fits(x.Cols, o.Row) {
			r.Fail()
		}
		last = o.Seq
		x.outputs = append(x.outputs, o)
	}
}
