package engine

import (
	"slices"

	"afflux/api"
	"afflux/catalog"
	"afflux/codec"
	"afflux/disk"
	"afflux/sched"
	"afflux/snap"
	"afflux/state"
	"afflux/wal"
)

const (
	logName   = "log"
	markName  = "mark"
	numDigits = 8
)

// laid is a snapshot's data.
func laid(text string, s *state.State) string {
	return new(codec.Writer).Text(text, s.Bytes()).String()
}

// begun tells whether there is a file of a log.
func begun(d *disk.Disk) bool {
	front := logName + "."
	return slices.ContainsFunc(d.Names(front), func(name string) bool { return isDigits(name[len(front):]) })
}

// isDigits tells whether a text is as many digits as a segment's name has.
func isDigits(s string) bool {
	for i := range len(s) {
		if s[i] < '0' || s[i] > '9' {
			return false
		}
	}
	return len(s) == numDigits
}

// Deploy begins an engine.
func Deploy(d *disk.Disk, c api.Catalog, room int) (*Engine, api.Errno) {
	switch {
	case d == nil || room < 1 || room > maxRoom:
		return nil, api.ErrArg
	case !d.On():
		return nil, api.ErrOff
	case slices.Contains(d.Names(markName), markName) || begun(d):
		return nil, api.ErrTwice
	}
	text, e := catalog.Print(c)
	if e != api.OK {
		return nil, e
	}
	s, e := state.New(c)
	if e != api.OK {
		return nil, e
	}
	if e := snap.Save(d, 0, laid(text, s)); e != api.OK {
		return nil, e
	}
	l, _, e := wal.Open(d, logName, 0)
	if e != api.OK {
		return nil, e
	}
	return made(s, room, shelf{disk: d, log: l, text: text}), api.OK
}

func made(s *state.State, room int, x shelf) *Engine {
	return &Engine{Sched: sched.New(s, room), shelf: x, answers: map[int]answer{}}
}

// Open opens an engine.
func Open(d *disk.Disk, room int) (*Engine, api.Errno) {
	if d == nil || room < 1 || room > maxRoom {
		return nil, api.ErrArg
	}
	n, data, e := snap.Load(d)
	if e == api.ErrNone && begun(d) {
		e = api.ErrCorrupt
	}
	if e != api.OK {
		return nil, e
	}
	text, s := read(data)
	if s == nil {
		return nil, api.ErrCorrupt
	}
	l, recs, e := wal.Open(d, logName, n)
	if e != api.OK {
		return nil, e
	}
	if len(recs) > 0 && recs[0].Seq > n || l.Next() < n {
		return nil, api.ErrCorrupt
	}
	g := made(s, room, shelf{disk: d, log: l, text: text, last: n})
	if !g.redo(recs) {
		return nil, api.ErrCorrupt
	}
	if _, e := snap.Sweep(d); e != api.OK {
		return nil, e
	}
	return g, api.OK
}

// read is the catalog's text and the state of a snapshot's data; no state: it is none.
func read(data string) (string, *state.State) {
	r := codec.Read(data)
	text := r.Text(api.MaxSource)
	b := r.Text(len(data))
	c, _, e := catalog.Parse(text)
	if !r.End() || e != api.OK {
		return "", nil
	}
	s, e := state.New(c)
	if e != api.OK || s.Load(b) != api.OK {
		return "", nil
	}
	return text, s
}

// redo does the commands of records again that aren't in the snapshot; false: one of them isn't a command that may be accepted.
func (g *Engine) redo(recs []api.Rec) bool {
	for _, rec := range recs {
		if rec.Seq < g.last {
			continue
		}
		x, e := sched.Decode(rec.Data)
		if e != api.OK || g.accept(rec.Seq, x) != api.OK {
			return false
		}
		g.Run()
	}
	return true
}
