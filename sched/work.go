package sched

import (
	"slices"

	"afflux/api"
	"afflux/catalog"
	"afflux/machine"
	"afflux/state"
	"afflux/stream"
	"afflux/undo"
)

// stage is how far a command is.
type stage struct {
	holds   bool // its locks: it is under way
	site    *machine.Site
	journal undo.Journal
	procs   []string       // those that are still to come
	turned  map[string]int // the streams that took their turn
	first   *machine.Machine
	current *machine.Machine
	err     api.Errno
}

// work is a command that isn't done.
type work struct {
	stage
	Command
	state   *state.State
	catalog api.Catalog
	result  Result
}

func newWork(seq int, x Command, s *state.State, c api.Catalog) *work {
	w := &work{Command: x, state: s, catalog: c, result: Result{Seq: seq}}
	w.procs, w.turned = procedures(c, x), map[string]int{}
	w.site = machine.NewSite(c, &w.journal, s.Tables()...)
	return w
}

// step does one step, and tells whether the command is done by it.
func (w *work) step() bool {
	switch {
	case w.current.Step():
		w.err = w.current.Err()
	case !w.begin():
		w.commit()
		return true
	}
	if w.err != api.OK {
		w.abort()
		return true
	}
	return false
}

// isSource tells whether a stream is the one that a batch came by.
func (w *work) isSource(name string) bool {
	return w.Kind == Batch && w.Name == name
}

// rows is the rows of a stream.
func (w *work) rows(name string) [][]api.Value {
	if w.isSource(name) {
		return w.Rows
	}
	var l [][]api.Value
	for _, o := range w.site.Emitted(name) {
		l = append(l, o.Row)
	}
	return l
}

// begin begins the next procedure that isn't left out; false: none is left.
func (w *work) begin() bool {
	for len(w.procs) > 0 {
		p, _ := catalog.Proc(w.catalog, w.procs[0])
		w.procs = w.procs[1:]
		if p.From == "" {
			w.start(p, w.Rows[0])
			return true
		}
		w.turn(p.From)
		if rows := w.rows(p.From); len(rows) > 0 || w.isSource(p.From) {
			w.site.Source("batch", rows...)
			w.start(p, nil)
			return true
		}
	}
	return false
}

// start lets a machine stand ahead of a procedure's first step.
func (w *work) start(p api.Proc, args []api.Value) {
	for _, x := range w.catalog.Windows {
		if x.Owner == p.Name {
			w.site.Source(x.Name, w.state.Window(x.Name).Rows()...)
		}
	}
	w.current, w.err = machine.New(w.site, p, args...)
	if w.first == nil {
		w.first = w.current
	}
}

// turn lets a stream take its turn, if it didn't: its rows come to the windows on it.
func (w *work) turn(name string) {
	w.turned[name]++
	rows := w.rows(name)
	if w.turned[name] > 1 || len(rows) == 0 && !w.isSource(name) {
		return
	}
	id := 1
	if w.Kind == Batch {
		id = w.Id
	}
	var on []string
	for _, x := range w.catalog.Windows {
		if x.On == name {
			on = append(on, x.Name)
		}
	}
	slices.Sort(on)
	for _, x := range on {
		w.state.Window(x).Put(&w.journal, stream.Batch{Id: id, Rows: rows})
	}
}

// commit lets the other streams take their turns, and all go out.
func (w *work) commit() {
	var names []string
	for _, s := range w.catalog.Streams {
		names = append(names, s.Name)
	}
	slices.Sort(names)
	for _, name := range names {
		w.turn(name)
	}
	for _, o := range w.site.Emitted() {
		w.state.Emit(w.result.Seq, o.Stream, o.Row)
	}
	w.journal.Keep()
	switch w.Kind {
	case Call:
		w.result.Reply = w.first.Reply()
	case Ack:
		w.result.Err = w.state.Ack(w.Name, w.Id)
	}
}

// abort takes all back.
func (w *work) abort() {
	w.journal.Back(0)
	w.result.Err = w.err
	w.result.Code = w.current.Code()
}
