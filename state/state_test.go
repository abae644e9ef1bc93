package state_test

import (
	"math"
	"reflect"
	"testing"

	"afflux/api"
	"afflux/catalog"
	"afflux/codec"
	. "afflux/state"
	"afflux/stream"
	"afflux/value"
)

const text = `table t(a int, b text) key (a) unique (b) limit 3;
table u(a int) key (a) limit 9;
stream in2(x int); stream in1(x int); stream mid(x int);
sink out(x int); sink end(x text);
window w on mid from p batches 2;
proc p() from in1 { emit mid(1); }`

func made(t *testing.T) *State {
	t.Helper()
	c, at, e := catalog.Parse(text)
	if e != api.OK {
		t.Fatal(at, e)
	}
	s, e := New(c)
	if e != api.OK {
		t.Fatal(e)
	}
	return s
}

func want(t *testing.T, what string, have, e api.Errno) {
	t.Helper()
	if have != e {
		t.Errorf("%s: %d, not %d", what, have, e)
	}
}

func num(n int64) []api.Value { return []api.Value{value.Int(n)} }

// P24.1
func TestNew(t *testing.T) {
	if s, e := New(api.Catalog{Procs: []api.Proc{{}}}); s != nil || e != api.ErrArg {
		t.Error("a catalog that isn't right")
	}
	s := made(t)
	c := s.Catalog()
	if want, _, _ := catalog.Parse(text); !catalog.Same(c, want) {
		t.Error("Catalog")
	}
	c.Tables[0].Name = "z"
	if s.Catalog().Tables[0].Name != "t" {
		t.Error("new memory")
	}
	if s.Table("t").Schema().Name != "t" || s.Table("w") != nil || s.Window("w").Size != 2 || s.Window("t") != nil || s.Border("in1").Name() != "in1" || s.Border("mid") != nil || s.Border("out") != nil {
		t.Error("things")
	}
	if l := s.Tables(); len(l) != 2 || l[0] != s.Table("t") || l[1] != s.Table("u") {
		t.Error("all tables")
	}
	if l := s.Tables("u", "x", "t", "u"); len(l) != 2 || l[0] != s.Table("t") || len(s.Tables("u")) != 1 || s.Tables("x") != nil {
		t.Error("in the catalog's order")
	}
	if a, b := s.Ends("out"); s.Table("t").Len() != 0 || s.Border("in1").Mark() != 0 || a != 0 || b != 0 {
		t.Error("at first")
	}
}

// P24.2
func TestOutputs(t *testing.T) {
	s := made(t)
	want(t, "no sink", s.Emit(-1, "mid", num(1)), api.ErrNone)
	want(t, "below 0", s.Emit(-1, "out", num(1)), api.ErrArg)
	want(t, "type", s.Emit(5, "out", num(1), []api.Value{value.Text("x")}), api.ErrType)
	row := num(1)
	want(t, "two rows", s.Emit(5, "out", row, num(2)), api.OK)
	row[0] = value.Int(9)
	want(t, "below the last one", s.Emit(4, "out", num(3)), api.ErrArg)
	want(t, "below the last one, of no rows", s.Emit(4, "out"), api.ErrArg)
	want(t, "the same", s.Emit(5, "out", num(3)), api.OK)
	var many [][]api.Value
	for range 40 {
		many = append(many, num(7))
	}
	want(t, "each row by itself", s.Emit(7, "out", many...), api.OK)
	l, e := s.Outputs("out", 1, 2)
	if !reflect.DeepEqual(l, []Output{{5, num(2)}, {5, num(3)}}) || e != api.OK {
		t.Error(l, e)
	}
	l[0].Row[0] = value.Int(9)
	if l, _ := s.Outputs("out", 0, 1); !reflect.DeepEqual(l, []Output{{5, num(1)}}) {
		t.Error("what is handed in isn't kept", l)
	}
	one := made(t)
	want(t, "0", one.Emit(0, "out", num(1)), api.OK)
	want(t, "5", one.Emit(5, "out", num(1)), api.OK)
	want(t, "below the last one", one.Emit(3, "out", num(1)), api.ErrArg)
	two := made(t)
	want(t, "5", two.Emit(5, "out", num(1)), api.OK)
	want(t, "below the only one", two.Emit(3, "out", num(1)), api.ErrArg)
	for _, c := range []struct {
		sink       string
		from, most int
		n          int
		e          api.Errno
	}{{"x", -1, 1, 0, api.ErrNone}, {"out", -1, 1, 0, api.ErrArg}, {"out", 0, 99, 43, api.OK}, {"out", 0, 0, 0, api.OK}, {"out", 0, -4, 0, api.OK}, {"out", 42, 9, 1, api.OK}, {"out", 43, 9, 0, api.OK}, {"out", math.MaxInt, math.MaxInt, 0, api.OK}} {
		if l, e := s.Outputs(c.sink, c.from, c.most); len(l) != c.n || e != c.e {
			t.Error(c, len(l), e)
		}
	}
	want(t, "no sink", s.Ack("x", -1), api.ErrNone)
	want(t, "below 0", s.Ack("out", -1), api.ErrArg)
	want(t, "above the next one", s.Ack("out", 44), api.ErrGap)
	want(t, "1", s.Ack("out", 1), api.OK)
	want(t, "0, which is lower", s.Ack("out", 0), api.OK)
	if a, b := s.Ends("out"); a != 1 || b != 43 {
		t.Error(a, b)
	}
	if l, e := s.Outputs("out", 0, 9); l != nil || e != api.ErrGap {
		t.Error("below the base")
	}
	if l, _ := s.Outputs("out", 1, 1); !reflect.DeepEqual(l, []Output{{5, num(2)}}) {
		t.Error(l)
	}
	want(t, "all", s.Ack("out", 43), api.OK)
	want(t, "a lower number, all being gone", s.Emit(1, "out", num(1)), api.OK)
	if a, b := s.Ends("out"); a != 43 || b != 44 {
		t.Error(a, b)
	}
	if a, b := s.Ends("x"); a != 0 || b != 0 {
		t.Error("no sink")
	}
}

func filled(t *testing.T) *State {
	t.Helper()
	s := made(t)
	s.Table("t").Load([]api.Value{value.Int(2), value.Text("x")}, []api.Value{value.Int(1), value.Text("y")})
	s.Table("u").Load(num(5))
	s.Window("w").Put(nil, stream.Batch{Rows: [][]api.Value{num(4), num(5)}})
	s.Border("in1").Set(3)
	s.Border("in2").Set(300)
	s.Emit(2, "out", num(1), num(2))
	s.Ack("out", 1)
	s.Emit(2, "end", []api.Value{value.Text("a")})
	return s
}

// P24.3
func TestBytes(t *testing.T) {
	s := filled(t)
	text := new(codec.Writer).Text(s.Table("t").Bytes(), s.Table("u").Bytes(), s.Window("w").Bytes()).Size(3, 300, 1, 1, 2).Row(num(2)...).Size(0, 1, 2).Row(value.Text("a")).String()
	if s.Bytes() != text {
		t.Errorf("%q", s.Bytes())
	}
	x := made(t)
	table := x.Table("t")
	want(t, "Load", x.Load(text), api.OK)
	if x.Bytes() != text || table.Len() != 2 || x.Table("t") != table {
		t.Error("it is so")
	}
	laid := func(t, u, w string, in1 int, outs ...func(*codec.Writer)) string {
		b := new(codec.Writer).Text(t, u, w).Size(in1, 0)
		for _, f := range outs {
			f(b)
		}
		return b.String()
	}
	none := func(w *codec.Writer) { w.Size(0, 0) }
	rows := func(l ...[]api.Value) string { return new(codec.Writer).Rows(l...).String() }
	tRow := func(a int64, b string) []api.Value { return []api.Value{value.Int(a), value.Text(b)} }
	for what, c := range map[string]struct {
		s string
		e api.Errno
	}{
		"nothing":                {laid("\x00", "\x00", "\x00\x00", 0, none, none), api.OK},
		"empty":                  {"", api.ErrForm},
		"cut off":                {text[:len(text)-1], api.ErrForm},
		"more":                   {text + "\x00", api.ErrForm},
		"rows out of order":      {laid(rows(tRow(2, "a"), tRow(1, "b")), "\x00", "\x00\x00", 0, none, none), api.ErrForm},
		"a row twice":            {laid("\x00", rows(num(1), num(1)), "\x00\x00", 0, none, none), api.ErrForm},
		"a unique key twice":     {laid(rows(tRow(1, "a"), tRow(2, "a")), "\x00", "\x00\x00", 0, none, none), api.ErrForm},
		"too many rows":          {laid(rows(tRow(1, "a"), tRow(2, "b"), tRow(3, "c"), tRow(4, "d")), "\x00", "\x00\x00", 0, none, none), api.ErrForm},
		"as many as may be":      {laid(rows(tRow(1, "a"), tRow(2, "b"), tRow(3, "c")), "\x00", "\x00\x00", 0, none, none), api.OK},
		"a row of another one":   {laid("\x00", rows(tRow(1, "a")), "\x00\x00", 0, none, none), api.ErrForm},
		"no table":               {laid("", "\x00", "\x00\x00", 0, none, none), api.ErrForm},
		"behind a table":         {laid("\x00\x00", "\x00", "\x00\x00", 0, none, none), api.ErrForm},
		"no window":              {laid("\x00", "\x00", "\x00", 0, none, none), api.ErrForm},
		"a mark":                 {laid("\x00", "\x00", "\x00\x00", math.MaxInt, none, none), api.OK},
		"outputs":                {laid("\x00", "\x00", "\x00\x00", 0, func(w *codec.Writer) { w.Size(7, 2, 4).Row(num(1)...).Size(4).Row(num(2)...) }, none), api.OK},
		"falling numbers":        {laid("\x00", "\x00", "\x00\x00", 0, func(w *codec.Writer) { w.Size(7, 2, 4).Row(num(1)...).Size(3).Row(num(2)...) }, none), api.ErrForm},
		"a row that doesn't fit": {laid("\x00", "\x00", "\x00\x00", 0, none, func(w *codec.Writer) { w.Size(0, 1, 4).Row(num(1)...) }), api.ErrForm},
		"a base too high":        {laid("\x00", "\x00", "\x00\x00", 0, func(w *codec.Writer) { w.Size(math.MaxInt, 1, 4).Row(num(1)...) }, none), api.ErrForm},
		"one sink missing":       {laid("\x00", "\x00", "\x00\x00", 0, none), api.ErrForm},
	} {
		x := filled(t)
		want(t, what, x.Load(c.s), c.e)
		if c.e == api.OK && x.Bytes() != c.s || c.e != api.OK && x.Bytes() != text {
			t.Error(what)
		}
	}
	w := s.Window("w")
	s.Clear()
	if s.Bytes() != made(t).Bytes() || w.Seen() != 0 || s.Window("w") != w {
		t.Error("Clear")
	}
}

// P24.3 of a nil state
func TestNil(t *testing.T) {
	var s *State
	s.Clear()
	l, e := s.Outputs("x", 0, 1)
	a, b := s.Ends("x")
	if !catalog.Same(s.Catalog(), api.Catalog{}) || s.Table("t") != nil || s.Tables() != nil || s.Window("w") != nil || s.Border("b") != nil || l != nil || a != 0 || b != 0 || s.Bytes() != "" {
		t.Error("nil")
	}
	for _, e := range []api.Errno{e, s.Emit(0, "x"), s.Ack("x", 0), s.Load("")} {
		want(t, "nil", e, api.ErrArg)
	}
}

// P24.4
func TestTellsAll(t *testing.T) {
	s, x := filled(t), made(t)
	x.Load(s.Bytes())
	a, b := s.Ends("out")
	c, d := x.Ends("out")
	l, _ := s.Outputs("out", 1, 9)
	m, _ := x.Outputs("out", 1, 9)
	if !reflect.DeepEqual(s.Table("t").Rows(), x.Table("t").Rows()) || !reflect.DeepEqual(s.Window("w").Rows(), x.Window("w").Rows()) || x.Border("in1").Mark() != 3 || a != c || b != d || !reflect.DeepEqual(l, m) {
		t.Error("it tells all that it told")
	}
}
