package catalog

import (
	"strings"

	"afflux/api"
	"afflux/calc"
	"afflux/lex"
	"afflux/parse"
	"afflux/print"
	"afflux/schema"
	"afflux/walk"
)

// greatest is what a greater number counts as.
const greatest = 1000000

// parser goes through a catalog's words.
type parser struct {
	*walk.Walker
	catalog api.Catalog
}

// Parse is a text's catalog.
func Parse(s string) (api.Catalog, int, api.Errno) {
	l, at, e := lex.Words(s)
	if e != api.OK {
		return api.Catalog{}, at, e
	}
	p := &parser{Walker: walk.On(lex.On(l, len(s)))}
	for !p.Stuck() && p.Left() > 0 {
		p.thing()
	}
	if p.Stuck() {
		return api.Catalog{}, p.Word().At, api.ErrParse
	}
	if e := Check(p.catalog); e != api.OK {
		return api.Catalog{}, 0, e
	}
	return p.catalog, 0, api.OK
}

func (p *parser) thing() {
	if p.Is("proc") {
		x, ok := parse.Body(p.Cursor)
		if !ok {
			p.Stop()
		}
		p.catalog.Procs = append(p.catalog.Procs, x)
		return
	}
	switch {
	case p.Take("table"):
		p.catalog.Tables = append(p.catalog.Tables, p.table())
	case p.Take("stream"):
		p.catalog.Streams = append(p.catalog.Streams, p.stream())
	case p.Take("sink"):
		p.catalog.Sinks = append(p.catalog.Sinks, p.stream())
	case p.Take("window"):
		p.catalog.Windows = append(p.catalog.Windows, p.window())
	default:
		p.Stop()
	}
	p.Need(";")
}

func (p *parser) number() int {
	return min(p.Number(0), greatest)
}

func (p *parser) columns() []api.Column {
	var l []api.Column
	p.Need("(")
	p.List(func() { l = append(l, p.Column()) })
	p.Need(")")
	return l
}

func (p *parser) stream() api.Stream {
	return api.Stream{Name: p.Name(), Cols: p.columns()}
}

func (p *parser) table() api.Schema {
	s := api.Schema{Name: p.Name(), Cols: p.columns(), Parts: 1}
	p.Need("key")
	s.Indexes = []api.Index{{Cols: p.places(s), Unique: true}}
	for p.Is("unique", "index") && !p.Stuck() {
		unique := p.Take("unique")
		if !unique {
			p.Take("index")
		}
		s.Indexes = append(s.Indexes, api.Index{Cols: p.places(s), Unique: unique})
	}
	p.Need("limit")
	s.Limit = p.number()
	if p.Take("parts") {
		s.Parts = p.number()
		p.Need("by")
		s.By = p.place(s)
	}
	return s
}

// places takes columns' names in parentheses.
func (p *parser) places(s api.Schema) []int {
	var l []int
	p.Need("(")
	p.List(func() { l = append(l, p.place(s)) })
	p.Need(")")
	return l
}

// place takes a column's name; no other name can stand there.
func (p *parser) place(s api.Schema) int {
	i := schema.Col(s, p.Word().Text)
	if i < 0 {
		p.Stop()
	}
	p.Name()
	return i
}

func (p *parser) window() api.Window {
	w := api.Window{Name: p.Name(), Slide: 1}
	p.Need("on")
	w.On = p.Name()
	p.Need("from")
	w.Owner = p.Name()
	if w.Batches = p.Take("batches"); !w.Batches {
		p.Need("tuples")
	}
	w.Size = p.number()
	if p.Take("slide") {
		w.Slide = p.number()
	}
	return w
}

// writer writes catalogs.
type writer struct {
	strings.Builder
}

func (w *writer) put(l ...string) {
	for _, s := range l {
		w.WriteString(s)
	}
}

// Print is a catalog's text.
func Print(c api.Catalog) (string, api.Errno) {
	if e := Check(c); e != api.OK {
		return "", e
	}
	var w writer
	for _, s := range c.Tables {
		w.table(s)
	}
	for _, s := range c.Streams {
		w.stream("stream ", s)
	}
	for _, s := range c.Sinks {
		w.stream("sink ", s)
	}
	for _, x := range c.Windows {
		w.window(x)
	}
	if e := w.procs(c.Procs); e != api.OK {
		return "", e
	}
	return w.String(), api.OK
}

// procs writes procedures; ErrArg of any of them is told ahead of what is too long.
func (w *writer) procs(l []api.Proc) api.Errno {
	long := false
	for _, p := range l {
		s, e := print.Proc(p)
		if e == api.ErrArg {
			return e
		}
		long = long || e != api.OK
		w.put(s, "\n")
	}
	if long || w.Len() > api.MaxSource {
		return api.ErrLong
	}
	return api.OK
}

// list writes things in parentheses, with commas between.
func (w *writer) list(n int, one func(i int)) {
	w.put("(")
	for i := range n {
		if i > 0 {
			w.put(", ")
		}
		one(i)
	}
	w.put(")")
}

func (w *writer) columns(l []api.Column) {
	w.list(len(l), func(i int) { w.put(l[i].Name, " ", walk.KindWord(l[i].Kind)) })
}

func (w *writer) stream(word string, s api.Stream) {
	w.put(word, s.Name)
	w.columns(s.Cols)
	w.put(";\n")
}

func (w *writer) table(s api.Schema) {
	w.put("table ", s.Name)
	w.columns(s.Cols)
	for i, x := range s.Indexes {
		switch {
		case i == 0:
			w.put(" key ")
		case x.Unique:
			w.put(" unique ")
		default:
			w.put(" index ")
		}
		w.list(len(x.Cols), func(i int) { w.put(s.Cols[x.Cols[i]].Name) })
	}
	w.put(" limit ", digits(s.Limit), " parts ", digits(s.Parts), " by ", s.Cols[s.By].Name, ";\n")
}

func (w *writer) window(x api.Window) {
	unit := " tuples "
	if x.Batches {
		unit = " batches "
	}
	w.put("window ", x.Name, " on ", x.On, " from ", x.Owner, unit, digits(x.Size), " slide ", digits(x.Slide), ";\n")
}

func digits(n int) string {
	return calc.Print(int64(n))
}
