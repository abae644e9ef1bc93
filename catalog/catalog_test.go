package catalog_test

import (
	"fmt"
	"reflect"
	"strings"
	"testing"

	"afflux/api"
	. "afflux/catalog"
)

const whole = `table t(a int, b text, c bool) key (a) unique (b, a) index (c) limit 5 parts 3 by b;
table one(a int) key (a) limit 1000 parts 1 by a;
stream in1(x int, y text);
stream mid(x int);
sink out(x int);
window w on in1 from p tuples 3 slide 2;
window v on mid from q batches 100 slide 1;
proc p() from in1 {
  for r in batch {
    emit mid(r.x + count(k in w));
  }
}
proc q(x int) fuel 7 {
  insert one(x);
}
`

func parsed(t *testing.T, s string) api.Catalog {
	t.Helper()
	c, at, e := Parse(s)
	if e != api.OK || at != 0 {
		t.Fatalf("%s: %d at %d", s, e, at)
	}
	return c
}

// P21.1, P21.2
func TestText(t *testing.T) {
	c := parsed(t, whole)
	want := api.Schema{Name: "t", Cols: []api.Column{{Name: "a", Kind: 1}, {Name: "b", Kind: 2}, {Name: "c", Kind: 3}}, Indexes: []api.Index{{Cols: []int{0}, Unique: true}, {Cols: []int{1, 0}, Unique: true}, {Cols: []int{2}}}, Limit: 5, Parts: 3, By: 1}
	if !reflect.DeepEqual(c.Tables[0], want) || len(c.Tables) != 2 || len(c.Streams) != 2 || len(c.Procs) != 2 {
		t.Error(c)
	}
	if !reflect.DeepEqual(c.Windows, []api.Window{{Name: "w", On: "in1", Owner: "p", Size: 3, Slide: 2}, {Name: "v", On: "mid", Owner: "q", Batches: true, Size: 100, Slide: 1}}) {
		t.Error(c.Windows)
	}
	if !reflect.DeepEqual(c.Sinks, []api.Stream{{Name: "out", Cols: []api.Column{{Name: "x", Kind: 1}}}}) {
		t.Error(c.Sinks)
	}
	if s, e := Print(c); s != whole || e != api.OK {
		t.Error(s, e)
	}
	if s, e := Print(api.Catalog{}); s != "" || e != api.OK {
		t.Error("nothing", s, e)
	}
	other := parsed(t, "proc q(x int) fuel 7 { insert one(x); } sink out(x int); window w on in1 from p tuples 3 slide 2; table one ( a int ) key ( a ) limit 1000 ;// x\n stream in1(x int,y text);proc p() from in1 {} window v on in1 from q batches 4;")
	if other.Tables[0].Parts != 1 || other.Tables[0].By != 0 || other.Windows[1].Slide != 1 || other.Procs[0].Name != "q" {
		t.Error(other)
	}
	if s, _ := Print(other); !strings.HasPrefix(s, "table one(a int) key (a) limit 1000 parts 1 by a;\nstream in1(x int, y text);\nsink out(x int);\nwindow w on in1 from p tuples 3 slide 2;\nwindow v on in1 from q batches 4 slide 1;\nproc q(x int) fuel 7 {\n") {
		t.Error(s)
	}
	if c := parsed(t, ""); !Same(c, api.Catalog{}) {
		t.Error("an empty text")
	}
}

// P21.1: the place is marked with ^
func TestParseErrors(t *testing.T) {
	for _, s := range []string{"^x", "^;", "table^", "table ^1", "table ^key", "table t^", "table t ^key", "table t(^)", "table t(a^", "table t(a ^x)", "table t(a int^", "table t(a int,^)", "table t(a int) ^limit 5;", "table t(a int) key ^a", "table t(a int) key (^) limit 5;", "table t(a int) key (a^", "table t(a int) key (a) index ^limit", "table t(a int) key (a) ^;", "table t(a int) key (a) limit ^x", "table t(a int) key (a) limit 5^", "table t(a int) key (a) limit 5 parts 1 ^;", "table t(a int) key (a) limit 5 ^by a;",
		"table t(a int) key (a) limit ^-5;", "stream s ^;", "stream s(^);", "stream s(a int) ^key", "stream ^stream(a int);", "sink s(x ^where);", "sink s(x int) ^}", "window w ^from p", "window w on ^1", "window w on s from p ^5", "window w on s from p tuples ^;", "window w on s from p batches 5 ^6;", "window w on s from p tuples 5 slide ^;",
		"proc^", "proc p() { reply ^; }", "proc p() {} ^}", "proc p() fuel 0 {} ^table", "proc p() fuel 0 {}^", "stream s(a int); proc p() { ^!", "proc p() { reply " + strings.Repeat("(", 60) + "^1", "proc p() { let ^by = 1; }"} {
		stands(t, s)
	}
	if _, at, e := Parse(strings.Repeat(" ", 8001)); at != 0 || e != api.ErrLong {
		t.Error("too long", e)
	}
}

// stands tells whether a text can't go on where ^ stands.
func stands(t *testing.T, s string) {
	t.Helper()
	place := strings.Index(s, "^")
	c, at, e := Parse(s[:place] + s[place+1:])
	if e != api.ErrParse || at != place || !Same(c, api.Catalog{}) {
		t.Errorf("%s: %d at %d", s, e, at)
	}
}

// P21.1: where a column's name must stand, no other one can
func TestColumnNames(t *testing.T) {
	for _, s := range []string{"table t(a int) key (^b) limit 5;", "table t(a int) key (a) unique (a, ^z)", "table t(a int) key (a) limit 5 parts 1 by ^b;"} {
		stands(t, s)
	}
}

// P21.1
func TestCheck(t *testing.T) {
	many := ""
	for i := range 25 {
		many += fmt.Sprintf("stream s%d(a int);", i)
	}
	table := func(s string) string { return "table t(a int, b text) " + s + ";" }
	for s, want := range map[string]api.Errno{
		many: api.ErrLong, strings.Replace(many, "stream s9(a int);", "", 1): api.OK, strings.Replace(many, "s9(a int)", "s9(limi int, limi int)", 1): api.ErrLong,
		table("key (a) limit 0"): api.ErrArg, table("key (a) limit 1001"): api.ErrArg, table("key (a) limit 99999999999"): api.ErrArg, table("key (a) limit 5 parts 9 by a"): api.ErrArg, table("key (a) limit 5 parts 0 by a"): api.ErrArg, table("key (a, a) limit 5"): api.ErrArg, table("key (a) index (a) limit 5"): api.ErrArg,
		"stream s(a int, a text);": api.ErrArg, "sink s(a int, a text);": api.ErrArg, "stream batch(a int);": api.ErrArg, "stream s(batch int);": api.ErrArg, "table t(batch int) key (batch) limit 5;": api.ErrArg, "proc batch() {}": api.ErrArg, "proc p(batch int) {}": api.ErrArg,
		"stream s(a int); proc p() {} window w on s from p tuples 0;": api.ErrArg, "stream s(a int); proc p() {} window w on s from p tuples 101;": api.ErrArg, "stream s(a int); proc p() {} window w on s from p tuples 5 slide 6;": api.ErrArg, "stream s(a int); proc p() {} window batch on s from p tuples 5;": api.ErrArg,
		"stream s(a int); sink s(a int);": api.ErrTwice, "proc p() {} proc p() {}": api.ErrTwice, "stream p(a int); proc p() { reply x; }": api.ErrTwice,
		"stream s(a int); window w on s from p tuples 5;": api.ErrNone, "proc p() {} window w on s from p tuples 5;": api.ErrNone, "sink s(a int); proc p() {} window w on s from p tuples 5;": api.ErrNone,
		"proc p() from s {}": api.ErrNone, "proc p() { reply x; }": api.ErrType, "proc p() { reply x; } proc q() from s {}": api.ErrType, "proc q() from s {} proc p() { reply x; }": api.ErrNone,
		"stream s(a int); proc p() from s { emit s(1); }": api.ErrState, "stream s(a int); proc p() from s { emit s(1); } proc q() { reply x; }": api.ErrType, "stream s(a int); window w on s from p tuples 1; window x on s from gone tuples 1; proc p() { reply y; }": api.ErrNone,
	} {
		if c, at, e := Parse(s); e != want || at != 0 || e != api.OK && !Same(c, api.Catalog{}) {
			t.Errorf("%s: %d at %d", s, e, at)
		}
	}
	few := strings.Replace(strings.Replace(many, "stream s9(a int);", "", 1), "stream s8(a int);", "", 1)
	if _, _, e := Parse(few + "proc p() {}"); e != api.OK {
		t.Error("24 things", e)
	}
	if _, _, e := Parse(few + "proc p() {} window w on s1 from p tuples 1;"); e != api.ErrLong {
		t.Error("25 things, one of them a window", e)
	}
	room := []api.Stream{{Name: "s", Cols: []api.Column{{Name: "a", Kind: 1}}}, {Name: "spare"}}
	if e := Check(api.Catalog{Streams: room[:1], Sinks: []api.Stream{{Name: "o", Cols: []api.Column{{Name: "a", Kind: 1}}}}}); e != api.OK || room[1].Name != "spare" {
		t.Error("what is handed in is changed", e)
	}
	wrong := api.Catalog{Streams: []api.Stream{{Name: "key", Cols: []api.Column{{Name: "a", Kind: 1}}}}}
	if e := Check(wrong); e != api.ErrArg {
		t.Error("a reserved name", e)
	}
	wrong.Streams[0] = api.Stream{Name: "s", Cols: []api.Column{{Name: "limit", Kind: 1}}}
	if e := Check(wrong); e != api.ErrArg {
		t.Error("a reserved column", e)
	}
	if s, e := Print(wrong); s != "" || e != api.ErrArg {
		t.Error("Print", e)
	}
	if e := Check(api.Catalog{Procs: []api.Proc{{}}}); e != api.ErrArg {
		t.Error("a procedure", e)
	}
}

func texts(name string, l ...string) api.Proc {
	p := api.Proc{Name: name, Fuel: 1}
	for _, s := range l {
		p.Body = append(p.Body, api.Stmt{Op: api.SReply, Exprs: []api.Expr{{Op: api.XText, S: s}}})
	}
	return p
}

// P21.2
func TestPrintErrors(t *testing.T) {
	long := strings.Repeat("x", 200)
	var half, all []string
	for i := range 38 {
		if all = append(all, long); i < 19 {
			half = append(half, long)
		}
	}
	for what, c := range map[string]struct {
		l    []api.Proc
		want api.Errno
	}{
		"a newline": {[]api.Proc{texts("p", "\n")}, api.ErrArg}, "one that is too long": {[]api.Proc{texts("p", all...)}, api.ErrLong}, "two together": {[]api.Proc{texts("p", half...), texts("q", half...)}, api.ErrLong},
		"a newline behind what is too long": {[]api.Proc{texts("p", all...), texts("q", "\n")}, api.ErrArg}, "half": {[]api.Proc{texts("p", half...)}, api.OK},
	} {
		if s, e := Print(api.Catalog{Procs: c.l}); e != c.want || (s == "") != (e != api.OK) {
			t.Error(what, e, len(s))
		}
	}
	base, _ := Print(api.Catalog{Procs: []api.Proc{texts("p", append(all[:37:37], "")...)}})
	rest := api.MaxSource - len(base)
	if s, e := Print(api.Catalog{Procs: []api.Proc{texts("p", append(all[:37:37], long[:rest])...)}}); len(s) != api.MaxSource || e != api.OK {
		t.Error(rest, len(s), e)
	}
	if s, e := Print(api.Catalog{Procs: []api.Proc{texts("p", append(all[:37:37], long[:rest+1])...)}}); s != "" || e != api.ErrLong {
		t.Error(rest, len(s), e)
	}
}

// P21.2
func TestSameCopyProcNames(t *testing.T) {
	c := parsed(t, whole)
	d := Copy(c)
	if !Same(c, d) || !Same(api.Catalog{Tables: []api.Schema{}}, api.Catalog{}) {
		t.Error("the same")
	}
	for what, change := range map[string]func(*api.Catalog){
		"table": func(c *api.Catalog) { c.Tables[0].Indexes[1].Cols[0] = 2 }, "column": func(c *api.Catalog) { c.Tables[0].Cols[0].Name = "z" }, "stream": func(c *api.Catalog) { c.Streams[0].Cols[0].Kind = 2 }, "stream's name": func(c *api.Catalog) { c.Streams[0].Name = "z" }, "sink": func(c *api.Catalog) { c.Sinks[0].Cols[0].Name = "z" },
		"window": func(c *api.Catalog) { c.Windows[0].Slide = 1 }, "procedure": func(c *api.Catalog) { c.Procs[0].Body[0].Body[0].Src = "out" }, "one fewer": func(c *api.Catalog) { c.Procs = c.Procs[:1] }, "order": func(c *api.Catalog) { c.Tables[0], c.Tables[1] = c.Tables[1], c.Tables[0] },
	} {
		d := Copy(c)
		if change(&d); Same(c, d) || !Same(c, parsed(t, whole)) {
			t.Error(what)
		}
	}
	if x := Copy(api.Catalog{Procs: []api.Proc{{Name: "bad"}}}); len(x.Procs) != 1 || x.Procs[0].Name != "" {
		t.Error("procedures that aren't right are nothing")
	}
	if p, ok := Proc(api.Catalog{Procs: []api.Proc{{Name: "p", Fuel: 1}, {Name: "p", Fuel: 2}}}, "p"); p.Fuel != 1 || !ok {
		t.Error("the first one")
	}
	if p, ok := Proc(c, "t"); p.Name != "" || ok {
		t.Error("none")
	}
	c.Windows = append(c.Windows, api.Window{Name: "t"})
	if got := strings.Join(Names(c), " "); got != "in1 mid one out p q t v w" || Names(api.Catalog{}) != nil {
		t.Error(got)
	}
}

// P21.3
func TestThereAndBack(t *testing.T) {
	for _, s := range []string{whole, "", "proc p(x bool) { reply 'it''s // x', x; }", "stream a(x bool); stream b(x text); proc p() from a { emit b('c'); } proc q() from b {}"} {
		c := parsed(t, s)
		text, e := Print(c)
		if e != api.OK || !Same(c, parsed(t, text)) {
			t.Error(s, text, e)
		}
		if again, _ := Print(parsed(t, text)); again != text {
			t.Error(again)
		}
	}
}
