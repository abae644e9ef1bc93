// Package walk goes through the words of a text, for the layers that read and write texts; once it can't go on, it takes none any more.
package walk

import (
	"afflux/api"
	"afflux/lex"
	"afflux/syntax"
)

// Walker goes through words.
type Walker struct {
	*lex.Cursor
	stuck bool
}

// On is a walker where a cursor stands.
func On(c *lex.Cursor) *Walker {
	return &Walker{Cursor: c}
}

// Stop lets the walker stand where it can't go on.
func (w *Walker) Stop() {
	w.stuck = true
}

// Stuck tells whether the walker can't go on.
func (w *Walker) Stuck() bool {
	return w.stuck
}

// Take goes behind a word, if it comes next.
func (w *Walker) Take(text string) bool {
	return !w.stuck && w.Cursor.Take(text)
}

// Need goes behind words that must come next.
func (w *Walker) Need(texts ...string) {
	for _, text := range texts {
		if !w.Take(text) {
			w.Stop()
		}
	}
}

// List takes one thing or more, with commas between.
func (w *Walker) List(one func()) {
	one()
	for w.Take(",") {
		one()
	}
}

// Name takes a name that isn't reserved.
func (w *Walker) Name() string {
	if x := w.Word(); w.stuck || x.Kind != lex.Name || !syntax.Free(x.Text) {
		w.Stop()
		return ""
	}
	x, _ := w.Kind(lex.Name)
	return x.Text
}

// Number takes a number from least on.
func (w *Walker) Number(least int64) int {
	if x := w.Word(); w.stuck || x.Kind != lex.Number || x.N < least {
		w.Stop()
		return 0
	}
	x, _ := w.Kind(lex.Number)
	return int(x.N)
}

// KindWord is the word of a column's kind.
func KindWord(kind int) string {
	switch kind {
	case api.KInt:
		return "int"
	case api.KText:
		return "text"
	}
	return "bool"
}

// Column takes a name and a kind.
func (w *Walker) Column() api.Column {
	c := api.Column{Name: w.Name()}
	for kind := api.KInt; kind <= api.KBool; kind++ {
		if w.Take(KindWord(kind)) {
			c.Kind = kind
			return c
		}
	}
	w.Stop()
	return c
}
