package types_test

import (
	"reflect"
	"testing"

	"afflux/api"
	"afflux/parse"
	"afflux/schema"
	. "afflux/types"
)

func cols(l ...api.Column) []api.Column { return l }

func num(name string) api.Column   { return api.Column{Name: name, Kind: api.KInt} }
func text(name string) api.Column  { return api.Column{Name: name, Kind: api.KText} }
func truth(name string) api.Column { return api.Column{Name: name, Kind: api.KBool} }

func some() api.Catalog {
	return api.Catalog{
		Tables: []api.Schema{
			{Name: "t", Cols: cols(num("a"), text("b"), truth("c")), Indexes: []api.Index{{Cols: []int{0}, Unique: true}}, Limit: 9, Parts: 4},
			{Name: "u", Cols: cols(text("k"), num("n")), Indexes: []api.Index{{Cols: []int{0}, Unique: true}}, Limit: 9, Parts: 2},
			{Name: "one", Cols: cols(text("k")), Indexes: []api.Index{{Cols: []int{0}, Unique: true}}, Limit: 9, Parts: 1},
			{Name: "t", Cols: cols(num("z"))},
			{Name: "odd", Cols: cols(api.Column{Name: "x"}, num("x")), Parts: 3, By: 2},
		},
		Streams: []api.Stream{{Name: "s", Cols: cols(num("x"), text("y"))}, {Name: "both", Cols: cols(num("x"))}},
		Sinks:   []api.Stream{{Name: "out", Cols: cols(truth("x"))}, {Name: "both", Cols: cols(text("x"))}},
		Windows: []api.Window{
			{Name: "w", On: "s", Owner: "p"}, {Name: "w", On: "both", Owner: "q"}, {Name: "t", On: "s", Owner: "p"}, {Name: "lost", On: "out", Owner: "p"},
			{Name: "other", On: "s", Owner: "q"}, {Name: "other", On: "s", Owner: "p"},
		},
	}
}

func proc(t *testing.T, s string) api.Proc {
	t.Helper()
	p, at, e := parse.Proc(s)
	if e != api.OK {
		t.Fatalf("%s: %d at %d", s, e, at)
	}
	return p
}

// P15.1
func TestColsRowTable(t *testing.T) {
	c := some()
	p, q, b := proc(t, "proc p() {}"), proc(t, "proc q() from s {}"), proc(t, "proc p() from none {}")
	for _, x := range []struct {
		p    api.Proc
		src  string
		want []api.Column
		ok   bool
	}{
		{p, "t", c.Tables[0].Cols, true}, {p, "w", c.Streams[0].Cols, true}, {q, "w", nil, false}, {p, "lost", nil, false}, {p, "other", nil, false}, {q, "other", c.Streams[0].Cols, true},
		{p, "batch", nil, false}, {q, "batch", c.Streams[0].Cols, true}, {b, "batch", nil, false}, {p, "s", nil, false}, {p, "", nil, false}, {p, "odd", c.Tables[4].Cols, true},
	} {
		if l, ok := Cols(c, x.p, x.src); !reflect.DeepEqual(l, x.want) || ok != x.ok {
			t.Error(x.p.Name, x.src, l, ok)
		}
	}
	for _, src := range []string{"t", "w", "batch"} {
		x := proc(t, "proc p() from s {}")
		l, _ := Cols(c, x, src)
		l[0].Name = "spoilt"
		if l, _ := Cols(c, x, src); l[0].Name == "spoilt" {
			t.Error(src, "new memory")
		}
	}
	c.Windows = append(c.Windows, api.Window{Name: "batch", On: "both", Owner: "q"}, api.Window{Name: "gone", On: "x", Owner: "q"})
	if l, _ := Cols(c, q, "batch"); !reflect.DeepEqual(l, c.Streams[1].Cols) {
		t.Error("a window ahead of batch", l)
	}
	if l, ok := Row(c, "both"); !reflect.DeepEqual(l, c.Streams[1].Cols) || !ok {
		t.Error("a stream ahead of a sink", l)
	}
	l, ok := Row(c, "out")
	if l[0].Name = "z"; !ok || c.Sinks[0].Cols[0].Name != "x" {
		t.Error("new memory")
	}
	if l, ok := Row(c, "t"); l != nil || ok {
		t.Error("no stream", l)
	}
	if s, ok := Table(c, "t"); !schema.Same(s, c.Tables[0]) || !ok {
		t.Error("the first table")
	}
	if s, ok := Table(c, "s"); !schema.Same(s, api.Schema{}) || ok {
		t.Error("no table")
	}
}

// P15.1
func TestKind(t *testing.T) {
	p := proc(t, "proc p(x int, y text, z bool) {}")
	for s, want := range map[string]int{
		"1": 1, "'a'": 2, "true": 3, "x": 1, "y": 2, "z": 3, "v": 0, "r.a": 0, "x.a": 0, "x + 1": 1, "x - x": 1, "x * x": 1, "x / x": 1, "x % x": 1, "x + y": 0, "y + y": 0, "z - z": 0, "v + 1": 0, "-x": 1, "-y": 0, "-v": 0,
		"x = 1": 3, "y != 'a'": 3, "z = true": 3, "x = y": 0, "v = v": 0, "x < 1": 3, "y <= 'a'": 3, "z < z": 0, "z >= true": 0, "x > y": 0, "z and true": 3, "z or z": 3, "not z": 3, "x and z": 0, "z or x": 0, "not x": 0, "1 and 1": 0,
		"count(r in t)": 1, "count(r in t where r.c)": 1, "count(r in t where r.a)": 0, "count(r in t where r)": 0, "count(r in none)": 0, "count(x in t)": 0, "count(r in t where count(r in t) = 1)": 0, "count(r in t where count(q in u where q.k = r.b) = 1)": 1,
		"sum(r in t: r.a)": 1, "sum(r in t: r.b)": 0, "min(r in w where r.y = y: r.x)": 1, "max(r in w: r.y)": 0, "max(r in w: r.z)": 0, "count(r in batch)": 0, "count(r in other)": 0, "count(r in t) + count(r in u)": 1, "count(r in t) = r.a": 0,
		"count(r in odd where r.x = r.x)": 0,
	} {
		e, _, err := parse.Expr(s)
		if err != api.OK {
			t.Fatal(s)
		}
		if k, ok := Kind(some(), p, e); k != want || ok != (want != 0) {
			t.Errorf("%s: %d", s, k)
		}
	}
	v, _, _ := parse.Expr("v")
	for kind, want := range map[int]int{0: 0, 1: 1, 7: 7} {
		odd := api.Proc{Params: cols(api.Column{Name: "v", Kind: kind}, text("v"))}
		if k, ok := Kind(some(), odd, v); k != want || ok != (want != 0) {
			t.Error("the first parameter of the name", k)
		}
	}
	if k, ok := Kind(some(), p, api.Expr{}); k != 0 || ok {
		t.Error("one that isn't right")
	}
}

// P15.2
func TestFault(t *testing.T) {
	for s, want := range map[string][]int{
		"let a = 1; set a = a + 1; reply a;":                nil,
		"let a = a;":                                        {0},
		"reply 1; let x = 1;":                               {1},
		"let a = 1; let a = 2;":                             {1},
		"if z { let a = 1; } let a = 2;":                    nil,
		"let a = 1; if z { let a = 2; }":                    {1, 0},
		"if z { let a = 1; } set a = 1;":                    {1},
		"set x = 1;":                                        {0},
		"let a = 1; set a = 'x';":                           {1},
		"set v = 1;":                                        {0},
		"for r in t { set r = 1; }":                         {0, 0},
		"insert t(1, 'b', true);":                           nil,
		"insert t(1, 'b');":                                 {0},
		"insert t(1, true, 'b');":                           {0},
		"insert w(1, 'b');":                                 {0},
		"insert odd(1, 1);":                                 {0},
		"emit s(1, 'b'); emit out(true);":                   nil,
		"emit both(1);":                                     nil,
		"emit both('x');":                                   {0},
		"emit t(1, 'b', true);":                             {0},
		"emit out(v);":                                      {0},
		"update r in t where r.c set b = r.b, a = r.a + 1;": nil,
		"update r in t where r.a set a = 1;":                {0},
		"update r in t set a = 'x';":                        {0},
		"update r in t set z = 1;":                          {0},
		"update r in w set x = 1;":                          {0},
		"update x in t set a = 1;":                          {0},
		"update r in odd set x = 1;":                        {0},
		"update r in t set a = count(r in t);":              {0},
		"delete r in t where r.c;":                          nil,
		"delete r in t where r.b;":                          {0},
		"delete r in w;":                                    {0},
		"delete z in t;":                                    {0},
		"for r in t where r.c { reply r.a; } for r in w { reply r.x; }":                nil,
		"for r in t { reply r.d; }":                                                    {0, 0},
		"for r in t { let r = 1; }":                                                    {0, 0},
		"for r in t { for r in t {} }":                                                 {0, 0},
		"for r in t { for q in t where q.a = r.a { delete k in t where k.a = q.a; } }": nil,
		"for r in t where r.a {}":                                                      {0},
		"for r in batch {}":                                                            {0},
		"for r in t {} reply r.a;":                                                     {1},
		"if x {}":                                                                      {0},
		"if z { reply 1; reply 2; } else { reply 1; reply v; }":                        {0, 3},
		"if z { if z {} else { abort 'x'; } }":                                         {0, 0, 0},
		"abort 'x';":                                                                   {0},
		"abort x;":                                                                     nil,
		"reply 1, v;":                                                                  {0},
		"let a = count(r in t); let r = a;":                                            nil,
		"let r = 1; let a = count(r in t);":                                            {1},
	} {
		p := proc(t, "proc p(x int, y text, z bool) {"+s+"}")
		path, bad := Fault(some(), p)
		if !reflect.DeepEqual(path, want) || bad != (want != nil) {
			t.Errorf("%s: %v, %v", s, path, bad)
		}
		if e := Fits(some(), p); (e == api.ErrType) != bad || !bad && e != api.OK {
			t.Errorf("%s: %d", s, e)
		}
	}
	if path, bad := Fault(some(), api.Proc{}); path != nil || bad {
		t.Error("one that isn't right")
	}
	if path, bad := Fault(some(), proc(t, "proc p() from none { reply v; }")); path != nil || bad {
		t.Error("From isn't fine")
	}
}

// P15.2
func TestFits(t *testing.T) {
	for s, want := range map[string]api.Errno{
		"proc p() from s { for r in batch { insert u(r.y, r.x); } }":    api.OK,
		"proc p() from none { reply v; }":                               api.ErrNone,
		"proc p() from out {}":                                          api.ErrNone,
		"proc p(k int) on k { insert t(k, '', true); }":                 api.OK,
		"proc p(k text) on k { insert t(1, '', true); }":                api.ErrType,
		"proc p(k int) on k { reply count(r in u); }":                   api.ErrType,
		"proc p(k text) on k { reply count(r in u); delete r in one; }": api.OK,
		"proc p(k int) on k { delete r in one; }":                       api.OK,
		"proc p(k int) on k { for r in w {} }":                          api.OK,
		"proc p(k int) on k { for r in odd {} }":                        api.ErrType,
		"proc p(k int) { for r in odd {} delete r in u; }":              api.OK,
		"proc q() { for r in other {} }":                                api.OK,
		"proc q() { for r in w {} }":                                    api.ErrType,
	} {
		if e := Fits(some(), proc(t, s)); e != want {
			t.Errorf("%s: %d", s, e)
		}
	}
	if e := Fits(some(), api.Proc{From: "none"}); e != api.ErrArg {
		t.Error("one that isn't right", e)
	}
	if path, bad := Fault(some(), proc(t, "proc p(k int) on k { reply count(r in u); }")); path != nil || bad {
		t.Error("no statement is at fault")
	}
}
