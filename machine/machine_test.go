package machine_test

import (
	"math/rand"
	"reflect"
	"strings"
	"testing"

	"afflux/api"
	. "afflux/machine"
	"afflux/parse"
	"afflux/table"
	"afflux/undo"
	"afflux/value"
)

func ints(l ...int64) []api.Value {
	var row []api.Value
	for _, n := range l {
		row = append(row, value.Int(n))
	}
	return row
}

func column(name string, kind int) api.Column { return api.Column{Name: name, Kind: kind} }

func some() api.Catalog {
	key := []api.Index{{Cols: []int{0}, Unique: true}}
	return api.Catalog{
		Tables: []api.Schema{
			{Name: "t", Cols: []api.Column{column("a", 1)}, Indexes: key, Limit: 5, Parts: 1},
			{Name: "u", Cols: []api.Column{column("a", 1), column("b", 1), column("c", 3)}, Indexes: key, Limit: 9, Parts: 2, By: 1},
		},
		Streams: []api.Stream{{Name: "s", Cols: []api.Column{column("x", 1), column("ok", 3)}}, {Name: "mid", Cols: []api.Column{column("x", 1)}}},
		Sinks:   []api.Stream{{Name: "out", Cols: []api.Column{column("x", 1)}}},
		Windows: []api.Window{{Name: "w", On: "s", Owner: "p", Size: 1, Slide: 1}},
	}
}

type world struct {
	j    undo.Journal
	t, u *table.Table
	site *Site
}

func fresh(t *testing.T) *world {
	t.Helper()
	w := &world{}
	c := some()
	w.t, _ = table.New(c.Tables[0])
	w.u, _ = table.New(c.Tables[1])
	w.t.Load(ints(1), ints(2), ints(3))
	w.u.Load(row(1, 1, true), row(2, 2, false), row(3, 3, true), row(4, 4, true))
	w.site = NewSite(c, &w.j, nil, w.t, w.u)
	return w
}

func row(a, b int64, c bool) []api.Value {
	return []api.Value{value.Int(a), value.Int(b), value.Bool(c)}
}

func proc(t *testing.T, s string) api.Proc {
	t.Helper()
	p, at, e := parse.Proc(s)
	if e != api.OK {
		t.Fatalf("%s: %d at %d", s, e, at)
	}
	return p
}

func (w *world) machine(t *testing.T, s string, args ...api.Value) *Machine {
	t.Helper()
	m, e := New(w.site, proc(t, s), args...)
	if e != api.OK {
		t.Fatalf("%s: %d", s, e)
	}
	return m
}

func prints(rows [][]api.Value) string {
	var l []string
	for _, r := range rows {
		l = append(l, value.Line(r...))
	}
	return strings.Join(l, "; ")
}

// P17.2
func TestNew(t *testing.T) {
	w := fresh(t)
	for s, want := range map[string]api.Errno{"proc p() from none {}": api.ErrNone, "proc p() { reply x; }": api.ErrType, "proc p(x int) {}": api.ErrType, "proc p() { insert t(1); }": api.OK} {
		if m, e := New(w.site, proc(t, s)); e != want || (m == nil) != (e != api.OK) {
			t.Error(s, e)
		}
	}
	if m, e := New(nil, proc(t, "proc p() {}")); m != nil || e != api.ErrArg {
		t.Error("without a site")
	}
	if m, e := New(w.site, api.Proc{}); m != nil || e != api.ErrArg {
		t.Error("one that isn't right")
	}
	p := proc(t, "proc p(a int, b text, c bool) {}")
	good := []api.Value{value.Int(1), value.Text("x"), value.Bool(true)}
	for _, args := range [][]api.Value{good[:2], append(good[:3:3], value.Int(1)), {good[1], good[0], good[2]}, {good[0], value.Text(strings.Repeat("x", 201)), good[2]}, {good[0], good[1], {Kind: 3, N: 2}}} {
		if _, e := New(w.site, p, args...); e != api.ErrType {
			t.Error(args, e)
		}
	}
	other, _ := table.New(api.Schema{Name: "t", Cols: []api.Column{column("z", 1)}, Indexes: []api.Index{{Cols: []int{0}, Unique: true}}, Limit: 1, Parts: 1})
	for what, c := range map[string]struct {
		l    []*table.Table
		want api.Errno
	}{"not there": {[]*table.Table{w.u}, api.ErrNone}, "other columns": {[]*table.Table{other, w.t}, api.ErrNone}, "the first of two": {[]*table.Table{w.t, other}, api.OK}} {
		for _, s := range []string{"proc p(x int) { insert t(1); }", "proc p(x int) { reply count(r in t); }"} {
			if _, e := New(NewSite(some(), nil, c.l...), proc(t, s), value.Int(1)); e != c.want {
				t.Error(what, e)
			}
			if _, e := New(NewSite(some(), nil, c.l...), proc(t, s)); c.want == api.ErrNone && e != c.want {
				t.Error("ahead of the arguments", e)
			}
		}
	}
}

// P17.1, P17.3: what procedures do
func TestRuns(t *testing.T) {
	for s, want := range map[string]string{ // t | u | emitted | reply
		"": "1; 2; 3||",
		"for r in t where r.a > 1 { delete k in t where k.a = r.a; }":                                                          "1||",
		"insert t(7); insert t(5); reply count(r in t);":                                                                       "1; 2; 3; 5; 7||5",
		"let a = 1; set a = a + 1; if a = 2 { set a = a * 10; let b = a; reply b; } else { abort 1; } let b = 1; reply a + b;": "1; 2; 3||21",
		"update r in t set a = r.a + 10; reply 1; reply 2, 'x', true;":                                                         "11; 12; 13||2, 'x', true",
		"update r in t where r.a != 2 set a = 0 - r.a;":                                                                        "-3; -1; 2||",
		"delete r in t where r.a = max(q in t: q.a);":                                                                          "1; 2||",
		"delete r in t;": "||",
		"for r in t { emit out(r.a); emit mid(r.a * 2); }":                               "1; 2; 3|out 1; mid 2; out 2; mid 4; out 3; mid 6|",
		"for r in t limit 2 { emit out(r.a); }":                                          "1; 2; 3|out 1; out 2|",
		"for r in t { for q in t where q.a < r.a { emit out(r.a * 10 + q.a); } }":        "1; 2; 3|out 21; out 31; out 32|",
		"for r in t { delete q in t where q.a = r.a + 1; emit out(r.a); }":               "1|out 1; out 2; out 3|",
		"for r in t { let x = r.a; if x = 2 {} else { emit out(x); } }":                  "1; 2; 3|out 1; out 3|",
		"for r in w { emit out(r.x); } for r in w where r.ok limit 1 { emit mid(r.x); }": "1; 2; 3|out 5; out 4; out 4; mid 5|",
		"reply sum(r in w where r.ok: r.x), count(r in w);":                              "1; 2; 3||9, 3",
		"if false { abort 1; }": "1; 2; 3||",
	} {
		w := fresh(t)
		w.site.Source("w", []api.Value{value.Int(5), value.Bool(true)}, []api.Value{value.Int(4), value.Bool(false)}, []api.Value{value.Int(4), value.Bool(true)})
		m := w.machine(t, "proc p() fuel 2000 {"+s+"}")
		if e := m.Run(); e != api.OK || !m.Done() || m.Step() || m.Code() != 0 {
			t.Error(s, e)
		}
		var out []string
		for _, o := range w.site.Emitted() {
			out = append(out, o.Stream+" "+value.Line(o.Row...))
		}
		if got := prints(w.t.Rows()) + "|" + strings.Join(out, "; ") + "|" + value.Line(m.Reply()...); got != want {
			t.Errorf("%s\n%s, not\n%s", s, got, want)
		}
	}
}

// P17.3: errors stop it, and what it did isn't taken back by it
func TestStops(t *testing.T) {
	long := strings.Repeat("emit out(1);", 8)
	for s, c := range map[string]struct {
		e    api.Errno
		code int64
		t    string
	}{
		"insert t(9); abort 6 * 7; insert t(8);":                             {api.ErrAbort, 42, "1; 2; 3; 9"},
		"insert t(9); reply 1 / 0;":                                          {api.ErrZero, 0, "1; 2; 3; 9"},
		"reply 1; insert t(1);":                                              {api.ErrTwice, 0, "1; 2; 3"},
		"insert t(4); insert t(5); insert t(6);":                             {api.ErrLimit, 0, "1; 2; 3; 4; 5"},
		"update r in t set a = r.a + 1;":                                     {api.ErrTwice, 0, "1; 2; 3"},
		"update r in t set a = 6 / (2 - r.a);":                               {api.ErrZero, 0, "1; 2; 3"},
		"delete r in t where 6 / (3 - r.a) > 0;":                             {api.ErrZero, 0, "1; 2; 3"},
		"for r in t { insert t(r.a * 10); abort r.a; }":                      {api.ErrAbort, 1, "1; 2; 3; 10"},
		long + long + long + long + "insert t(9); emit mid(1); emit out(1);": {api.ErrLong, 0, "1; 2; 3; 9"},
		"emit out(1 / 0);":                                                   {api.ErrZero, 0, "1; 2; 3"},
		"reply min(r in w: 1);":                                              {api.ErrNone, 0, "1; 2; 3"},
	} {
		w := fresh(t)
		m := w.machine(t, "proc p() fuel 2000 {"+s+"}")
		if e := m.Run(); e != c.e || m.Err() != c.e || m.Code() != c.code || !m.Done() || m.Step() || m.Reply() != nil {
			t.Error(s, e, m.Code())
		}
		if got := prints(w.t.Rows()); got != c.t && c.e != api.ErrTwice || c.e == api.ErrTwice && w.t.Len() != 3 {
			t.Error(s, got)
		}
		if l := w.site.Emitted("out"); c.e == api.ErrLong && (len(l) != 32 || len(w.site.Emitted("mid")) != 1) {
			t.Error("of each stream by itself", len(l))
		}
		if w.j.Back(0); prints(w.t.Rows()) != "1; 2; 3" {
			t.Error(s, "taken back by the journal")
		}
	}
}

// P17.3: the fuel
func TestFuel(t *testing.T) {
	for s, steps := range map[string]int{
		"reply 1;": 2, "reply 1, x + 1;": 5, "let a = 1; set a = 2;": 4, "insert t(9);": 2, "emit out(x);": 2, "if x = 1 { reply 1; }": 6, "if x = 2 { reply 1; }": 4, "reply count(r in t);": 8,
		"for r in t {}": 7, "for r in t limit 1 {}": 3, "for r in t where r.a = 2 limit 1 { reply 1; }": 11, "delete r in t;": 7, "delete r in t where r.a = 1;": 13, "update r in t where r.a = 1 set a = r.a + 8;": 16,
		"for r in w where x = x { reply 1; }": 1, "delete r in t where count(q in t) = 0;": 1 + 3*(1+1+1+6+1),
	} {
		w := fresh(t)
		head := "proc p(x int) fuel "
		p := proc(t, head+"100 {"+s+"}")
		p.Fuel = steps
		m, _ := New(w.site, p, value.Int(1))
		if m.Left() != steps {
			t.Error("Left")
		}
		if e := m.Run(); e != api.OK || m.Left() != 0 {
			t.Error(s, e, m.Left())
		}
		for p.Fuel--; p.Fuel > 0; p.Fuel-- {
			w = fresh(t)
			m, _ = New(w.site, p, value.Int(1))
			if e := m.Run(); e != api.ErrFuel {
				t.Error(s, "of", p.Fuel, e)
			}
		}
	}
	w := fresh(t)
	m := w.machine(t, "proc p() fuel 2 { insert t(7); insert t(8); }")
	if !m.Step() || m.Done() || m.Left() != 0 || !m.Step() || m.Err() != api.ErrFuel || m.Step() || w.t.Len() != 4 {
		t.Error("ahead of a step")
	}
}

// P17.3: steps one by one
func TestSteps(t *testing.T) {
	w := fresh(t)
	m := w.machine(t, "proc p() { for r in t limit 2 { reply r.a; } if true {} insert t(9); }")
	var l []string
	for m.Step() {
		l = append(l, value.Line(m.Reply()...))
	}
	if strings.Join(l, "|") != "|1|2|2|2" || !m.Done() || w.t.Len() != 4 {
		t.Error(l)
	}
	if m := w.machine(t, "proc p() {}"); !m.Done() || m.Step() || m.Run() != api.OK {
		t.Error("nothing to do")
	}
	a := w.machine(t, "proc p() { let x = count(r in t); reply x; }")
	b := w.machine(t, "proc p() { for r in t { delete q in t where q.a = r.a; } }")
	b.Step()
	b.Step()
	a.Step()
	b.Run()
	if a.Run(); value.Line(a.Reply()...) != "3" || w.t.Len() != 0 {
		t.Error("two machines on one site", a.Reply())
	}
}

// P17.2, P17.3: partitions
func TestPartitions(t *testing.T) {
	for s, c := range map[string]struct {
		e api.Errno
		u string
	}{
		"reply count(r in u), sum(r in u: r.a); insert t(9);": {api.OK, "1, 1, true; 2, 2, false; 3, 3, true; 4, 4, true"},
		"delete r in u;": {api.OK, "2, 2, false; 4, 4, true"},
		"for r in u { update q in u where q.a = r.a set a = r.a + 10; }": {api.OK, "2, 2, false; 4, 4, true; 11, 1, true; 13, 3, true"},
		"insert u(7, 7, true);":                             {api.OK, "1, 1, true; 2, 2, false; 3, 3, true; 4, 4, true; 7, 7, true"},
		"insert u(7, 8, true);":                             {api.ErrPart, "1, 1, true; 2, 2, false; 3, 3, true; 4, 4, true"},
		"insert u(1, 8, true);":                             {api.ErrPart, "1, 1, true; 2, 2, false; 3, 3, true; 4, 4, true"},
		"insert u(2, 7, true);":                             {api.ErrTwice, "1, 1, true; 2, 2, false; 3, 3, true; 4, 4, true"},
		"update r in u set b = r.b + 1;":                    {api.ErrPart, "1, 1, true; 2, 2, false; 3, 3, true; 4, 4, true"},
		"update r in u set b = r.b * (4 - r.b), c = false;": {api.OK, "1, 3, false; 2, 2, false; 3, 3, false; 4, 4, true"},
	} {
		w := fresh(t)
		m := w.machine(t, "proc p(k int) on k {"+s+"}", value.Int(5))
		if e := m.Run(); e != c.e || prints(w.u.Rows()) != c.u {
			t.Error(s, e, prints(w.u.Rows()))
		}
		if all := w.machine(t, "proc p() { reply count(r in u); }"); all.Run() != api.OK || value.Line(all.Reply()...) != value.Print(value.Int(int64(w.u.Len()))) {
			t.Error("without At all is seen", all.Reply())
		}
		if s[0] == 'r' && value.Line(m.Reply()...) != "2, 4" {
			t.Error(m.Reply())
		}
	}
}

// P17.1: rows as they stand
func TestOddRows(t *testing.T) {
	odd := []api.Value{{Kind: 9, N: 1, S: "x"}, {Kind: 1, N: 1}}
	two := []api.Value{{Kind: 2, N: 5, S: "y"}, {Kind: 1, N: 2}}
	for s, want := range map[string]api.Errno{
		"for r in w where r.ok { reply r.x; }":                           api.OK,
		"for r in w { if r.ok {} else { abort 1; } }":                    api.OK,
		"for r in w limit 1 { abort r.x; }":                              api.ErrAbort,
		"for r in w limit 1 { insert u(r.x, 1, true); }":                 api.ErrType,
		"for r in w limit 1 { update q in u set b = r.x; }":              api.ErrType,
		"for r in w { if r.ok {} } for r in w { let y = r.x; reply y; }": api.OK,
		"for r in w limit 1 { emit mid(r.x); }":                          api.OK,
		"reply count(r in w where r.ok);":                                api.ErrType,
	} {
		w := fresh(t)
		w.site.Source("w", odd, two)
		m := w.machine(t, "proc p() {"+s+"}")
		if e := m.Run(); e != want || e == api.ErrAbort && m.Code() != 1 {
			t.Error(s, e, m.Code())
		}
		if want == api.OK && s[:9] == "for r in w where"[:9] && s[11] == 'w' && !reflect.DeepEqual(m.Reply(), odd[:1]) {
			t.Error(s, m.Reply())
		}
	}
	w := fresh(t)
	w.site.Source("w", odd)
	m, _ := New(w.site, proc(t, "proc p(k int) on k { for r in w { insert u(r.x, 2, true); } }"), value.Int(1))
	if e := m.Run(); e != api.ErrType {
		t.Error("inserted: ErrType ahead of ErrPart", e)
	}
	odd[0].N = 2
	w.site.Source("w", odd[:1])
	if o := w.machine(t, "proc p() { for r in w where r.x = r.x { reply r.ok; } }"); o.Run() != api.ErrType {
		t.Error("a row that is too short")
	}
}

// P17.1
func TestSite(t *testing.T) {
	w := fresh(t)
	rows := [][]api.Value{ints(5)}
	if w.site.Source("batch", rows...) != w.site {
		t.Error("it answers itself")
	}
	rows[0][0] = value.Int(6)
	m := w.machine(t, "proc q() from mid { for r in batch { emit out(r.x); emit mid(r.x + 1); } }")
	m.Run()
	if l := w.site.Emitted("mid", "x"); !reflect.DeepEqual(l, []Out{{Stream: "mid", Row: ints(6)}}) {
		t.Error(l)
	}
	l := w.site.Emitted()
	l[0].Row[0] = value.Int(0)
	if l := w.site.Emitted(); len(l) != 2 || !reflect.DeepEqual(l[0], Out{Stream: "out", Row: ints(5)}) || w.site.Emitted("x") != nil {
		t.Error(l)
	}
	if w.site.Clear() != w.site || w.site.Emitted() != nil {
		t.Error("Clear")
	}
	var s *Site
	var none *Machine
	if s.Source("x") != nil || s.Emitted() != nil || s.Clear() != nil || none.Step() || none.Run() != api.ErrArg || !none.Done() || none.Err() != api.ErrArg || none.Code() != 0 || none.Reply() != nil || none.Left() != 0 {
		t.Error("nil")
	}
	c := some()
	site := NewSite(c, nil, w.t)
	c.Tables[0].Cols[0].Name, c.Streams[0].Name, c.Windows[0].Name, c.Streams[1].Cols[0].Kind = "z", "z", "z", 2
	if _, e := New(site, proc(t, "proc p() from s { insert t(1); for r in w { emit mid(r.x); } }")); e != api.OK {
		t.Error("the catalog is kept", e)
	}
	new(Site).Source("w", ints(1)) // of a site that NewSite didn't make nothing is promised, but that no call panics
	r := w.machine(t, "proc p() { reply 1; }")
	r.Run()
	r.Reply()[0] = value.Int(2)
	if r.Reply()[0] != value.Int(1) {
		t.Error("the reply is new memory")
	}
}

// P17.4: within the fuel, and taken back all is as ahead
func TestTakenBack(t *testing.T) {
	r := rand.New(rand.NewSource(9))
	parts := []string{"insert t(x);", "insert t(x + 1);", "delete q in t where q.a = x;", "update q in u set b = q.b + 2;", "update q in u where q.c set a = q.a + x;", "for q in t where q.a > x { insert u(q.a * 100, q.a, true); }", "delete q in u where q.a = x;",
		"if count(q in t) > 2 { delete q in t; } else { insert u(x * 50, x, false); }", "for q in u limit 2 { insert t(q.a + 40); if q.c { abort 3; } }"}
	for range 500 {
		w := fresh(t)
		before := w.t.Bytes() + w.u.Bytes()
		body := ""
		for range r.Intn(6) {
			body += parts[r.Intn(len(parts))]
		}
		p := proc(t, "proc p(x int) {"+body+"}")
		p.Fuel = 1 + r.Intn(80)
		m, e := New(w.site, p, value.Int(r.Int63n(4)))
		if e != api.OK {
			t.Fatal(e)
		}
		steps := 0
		for m.Step() {
			steps++
		}
		if steps > p.Fuel+1 || m.Left() < 0 {
			t.Fatal("it doesn't end within its fuel")
		}
		if w.j.Back(0); w.t.Bytes()+w.u.Bytes() != before {
			t.Fatal("not as ahead of it")
		}
	}
}
