package sched_test

import (
	"fmt"
	"math"
	"math/rand"
	"reflect"
	"strings"
	"testing"

	"afflux/api"
	"afflux/catalog"
	"afflux/codec"
	"afflux/lock"
	. "afflux/sched"
	"afflux/state"
	"afflux/value"
)

const text = `
table acc(id int, n int) key (id) limit 8 parts 3 by id;
table note(k int, v int) key (k) index (v) limit 20;
stream in1(x int); stream in2(x int, y int); stream mid(x int); stream end(x int); stream lone(x int);
sink out(x int);
window w on in1 from a tuples 4 slide 2;
window v on mid from b batches 3;
window z on end from c tuples 3;
window y on lone from all tuples 2;
proc a from in1 { for r in batch { if r.x > 7 { abort r.x; } emit mid(r.x + count(k in w)); } }
proc b from mid { for r in batch { insert note(count(q in note), r.x); emit end(r.x * 2); } emit out(sum(k in v: k.x)); }
proc c from end { for r in batch { update q in acc where q.id = r.x % 5 set n = q.n + count(k in z); } }
proc d from in2 { emit lone(count(r in batch)); for r in batch { if r.y = 0 { emit out(-1); } else { emit end(r.x / r.y); } } }
proc e from in2 { for r in batch { insert note(100 + count(q in note), r.y); } }
proc put(id int, n int) on id { insert acc(id, n); emit out(n); reply count(r in acc), 'put'; }
proc add(id int) on id { for r in acc where r.id = id { update q in acc where q.id = r.id set n = q.n + 1; } reply sum(r in acc: r.n); }
proc look(id int) on id { let n = 0; for r in acc { set n = n + r.n; } reply n, count(r in acc); }
proc all() { reply count(r in acc), count(q in note), count(k in y); }
proc drop(id int) { delete r in acc where r.id = id; delete q in note where q.v = id; emit mid(id); emit lone(id); }
proc fail(x int) { insert note(900, 1); delete r in acc; emit out(x); emit mid(x); reply 1; abort x; }
proc burn() fuel 9 { for r in note { insert note(r.k + 1000, 0); } }
`

func given(t testing.TB) api.Catalog {
	t.Helper()
	c, at, e := catalog.Parse(strings.NewReplacer("proc a from", "proc a() from", "proc b from", "proc b() from", "proc c from", "proc c() from", "proc d from", "proc d() from", "proc e from", "proc e() from").Replace(text))
	if e != api.OK {
		t.Fatal(at, e)
	}
	return c
}

func made(t testing.TB, room int) *Sched {
	t.Helper()
	s, e := state.New(given(t))
	if e != api.OK {
		t.Fatal(e)
	}
	return New(s, room)
}

func ints(l ...int64) []api.Value {
	row := []api.Value{}
	for _, n := range l {
		row = append(row, value.Int(n))
	}
	return row
}

func call(name string, args ...int64) Command {
	return Command{Kind: Call, Name: name, Rows: [][]api.Value{ints(args...)}}
}

func batch(name string, id int, rows ...[]api.Value) Command {
	return Command{Kind: Batch, Name: name, Id: id, Rows: rows}
}

func want(t *testing.T, what string, have, e api.Errno) {
	t.Helper()
	if have != e {
		t.Errorf("%s: %d, not %d", what, have, e)
	}
}

func submit(t *testing.T, d *Sched, seq int, x Command) {
	t.Helper()
	if e := d.Submit(seq, x); e != api.OK {
		t.Fatalf("%v: %d", x, e)
	}
}

// do submits a command, and answers its result.
func do(t *testing.T, d *Sched, seq int, x Command) Result {
	t.Helper()
	submit(t, d, seq, x)
	d.Run()
	l := d.Results()
	if len(l) != 1 || l[0].Seq != seq || d.Waiting() != 0 {
		t.Fatal(l)
	}
	return l[0]
}

// P25.1
func TestCheck(t *testing.T) {
	d := made(t, 2)
	for what, c := range map[string]struct {
		x    Command
		want api.Errno
	}{
		"kind 0": {Command{Name: "in1", Id: 1}, api.ErrNone}, "kind 4": {Command{Kind: 4, Name: "in1", Id: 1}, api.ErrNone}, "no border": {batch("mid", 1), api.ErrNone}, "a sink": {batch("out", 1), api.ErrNone},
		"rows": {batch("in1", 0, ints(1, 2)), api.ErrType}, "id 0": {batch("in1", 0), api.ErrArg}, "a gap": {batch("in1", 2), api.ErrGap}, "a batch": {batch("in1", 1, ints(1)), api.OK}, "an empty batch": {batch("in2", 1), api.OK},
		"no procedure": {call("x"), api.ErrNone}, "one that consumes": {call("a"), api.ErrArg}, "no arguments": {Command{Kind: Call, Name: "all"}, api.ErrType}, "an empty row": {call("all"), api.OK}, "two rows": {Command{Kind: Call, Name: "all", Rows: [][]api.Value{{}, {}}}, api.ErrType},
		"too many": {call("look", 1, 2), api.ErrType}, "another kind": {Command{Kind: Call, Name: "look", Rows: [][]api.Value{{value.Text("x")}}}, api.ErrType}, "fine": {call("look", 1), api.OK},
		"no sink": {Command{Kind: Ack, Name: "in1"}, api.ErrNone}, "below 0": {Command{Kind: Ack, Name: "out", Id: -1}, api.ErrArg}, "an acknowledgement": {Command{Kind: Ack, Name: "out", Id: 99}, api.OK},
	} {
		want(t, what, d.Check(c.x), c.want)
		if c.want != api.OK {
			want(t, what, d.Submit(0, c.x), c.want)
		}
	}
	want(t, "below 0", d.Submit(-1, Command{}), api.ErrArg)
	submit(t, d, 5, batch("in1", 1))
	want(t, "not above", d.Submit(5, Command{}), api.ErrArg)
	want(t, "the mark is the batch's id at once", d.Check(batch("in1", 1)), api.ErrTwice)
	submit(t, d, math.MaxInt-1, call("all"))
	want(t, "busy", d.Check(call("all")), api.ErrBusy)
	want(t, "its error ahead", d.Check(batch("in1", 1)), api.ErrTwice)
	want(t, "busy", d.Submit(math.MaxInt, call("all")), api.ErrBusy)
	if d.Waiting() != 2 || d.State().Border("in1").Mark() != 1 {
		t.Error("nothing has changed")
	}
	d.Run()
	submit(t, d, math.MaxInt, call("all"))
	want(t, "none above", d.Submit(math.MaxInt, call("all")), api.ErrArg)
	want(t, "none above", d.Submit(0, call("all")), api.ErrArg)
}

// P25.1
func TestNewAndNil(t *testing.T) {
	s, _ := state.New(given(t))
	if New(nil, 1) != nil || New(s, 0) != nil || New(s, 1001) != nil || New(s, 1000).State() != s {
		t.Error("New")
	}
	var d *Sched
	if d.Check(Command{}) != api.ErrArg || d.Submit(0, Command{}) != api.ErrArg || d.Enabled() != nil || d.Pick() != api.ErrArg || d.Waiting() != 0 || d.Running() != nil || d.Results() != nil || d.Run() != 0 || d.State() != nil {
		t.Error("nil")
	}
}

func numbers(t *testing.T, what string, have []int, l ...int) {
	t.Helper()
	if !reflect.DeepEqual(have, l) {
		t.Errorf("%s: %v, not %v", what, have, l)
	}
}

// P25.1: picks, one by one
func TestPicks(t *testing.T) {
	d := made(t, 9)
	submit(t, d, 0, call("put", 0, 7))
	submit(t, d, 1, call("put", 1, 8))
	submit(t, d, 2, call("look", 2))
	submit(t, d, 3, call("look", 0))
	numbers(t, "two calls that write wait one for the other; one that reads another partition doesn't", d.Enabled(), 0, 2)
	numbers(t, "none is under way", d.Running())
	want(t, "it waits", d.Pick(1), api.ErrNone)
	want(t, "no such one", d.Pick(9), api.ErrNone)
	want(t, "the first error ends it", d.Pick(2, 1, 0), api.ErrNone)
	numbers(t, "Running", d.Running(), 2)
	want(t, "the locks, a begin, 3 steps", d.Pick(0, 0, 0, 0, 0), api.OK)
	numbers(t, "Running", d.Running(), 0, 2)
	if d.State().Table("acc").Len() != 1 || d.Results() != nil {
		t.Error("not yet")
	}
	if l, _ := d.State().Outputs("out", 0, 9); l != nil {
		t.Error("nothing goes out ahead of the end")
	}
	want(t, "it commits", d.Pick(0), api.OK)
	numbers(t, "Enabled", d.Enabled(), 1, 2, 3)
	want(t, "it is done", d.Pick(0), api.ErrNone)
	if l := d.Results(); len(l) != 1 || !reflect.DeepEqual(l[0], Result{Seq: 0, Reply: []api.Value{value.Int(1), value.Text("put")}}) || d.Results() != nil {
		t.Error(l)
	}
	if n := d.Run(); n != 6+5+7 || d.Waiting() != 0 {
		t.Error(n)
	}
	if l := d.Results(); len(l) != 3 || l[0].Seq != 1 || l[2].Seq != 3 || value.Line(l[2].Reply...) != "7, 1" {
		t.Error("by their numbers", l)
	}
	if n := d.Run(); n != 0 {
		t.Error("nothing waits")
	}
	submit(t, d, 4, call("look", 0))
	submit(t, d, 5, call("look", 1))
	submit(t, d, 6, call("look", 2))
	for _, seq := range []int{5, 6, 4} {
		for d.Pick(seq) == api.OK {
		}
	}
	if l := d.Results(); len(l) != 3 || l[0].Seq != 4 || l[1].Seq != 5 || l[2].Seq != 6 {
		t.Error("by their numbers, whoever was done first", l)
	}
	for what, c := range map[string]struct {
		x Command
		n int
	}{
		"an acknowledgement": {Command{Kind: Ack, Name: "out"}, 2}, "a call": {call("all"), 4}, "an empty body": {batch("in1", 1), 4}, "two procedures of a batch": {batch("in2", 1), 7}, "statements": {call("put", 1, 1), 6},
	} {
		d := made(t, 9)
		submit(t, d, 0, c.x)
		if n := d.Run(); n != c.n {
			t.Errorf("%s: %d picks", what, n)
		}
	}
}

// P25.1: what commands do
func TestWhatCommandsDo(t *testing.T) {
	d := made(t, 9)
	if r := do(t, d, 0, batch("in1", 1, ints(1), ints(2))); !reflect.DeepEqual(r, Result{}) {
		t.Error(r)
	}
	s := d.State()
	// w slid ahead of a, so that 2 rows were seen: mid has 3, 4, and v has them ahead of b.
	if value.Line(s.Table("note").Rows()[1]...) != "1, 4" || s.Window("w").Seen() != 2 || s.Window("v").Seen() != 1 || s.Window("z").Seen() != 2 {
		t.Error(s.Table("note").Rows())
	}
	if l, _ := s.Outputs("out", 0, 9); !reflect.DeepEqual(l, []state.Output{{Seq: 0, Row: ints(7)}}) {
		t.Error(l)
	}
	before := s.Bytes()
	if r := do(t, d, 3, batch("in1", 2, ints(1), ints(8))); !reflect.DeepEqual(r, Result{Seq: 3, Err: api.ErrAbort, Code: 8}) || s.Border("in1").Mark() != 2 {
		t.Error(r)
	}
	s.Border("in1").Set(1)
	if s.Bytes() != before {
		t.Error("an abort leaves nothing but its mark")
	}
	s.Border("in1").Set(2)
	if r := do(t, d, 4, batch("in1", 3)); r.Err != api.OK || s.Window("w").Staged() != 0 || s.Window("v").Seen() != 1 {
		t.Error("an empty batch: b has no rows, and is left out", r)
	}
	if r := do(t, d, 5, batch("in2", 1, ints(6, 3), ints(6, 0))); r.Err != api.OK || s.Window("y").Seen() != 1 || s.Table("note").Len() != 4 || s.Window("z").Seen() != 3 {
		t.Error("lone is consumed by nobody, and takes its turn at the end", r)
	}
	if l, _ := s.Outputs("out", 1, 9); !reflect.DeepEqual(l, []state.Output{{Seq: 5, Row: ints(-1)}}) {
		t.Error(l)
	}
	if r := do(t, d, 6, call("all")); value.Line(r.Reply...) != "0, 4, 1" {
		t.Error("a machine's windows", r)
	}
	before = s.Bytes()
	if r := do(t, d, 7, call("fail", -3)); !reflect.DeepEqual(r, Result{Seq: 7, Err: api.ErrAbort, Code: -3}) || s.Bytes() != before {
		t.Error("a call that aborts", r)
	}
	if r := do(t, d, 8, call("burn")); r.Err != api.ErrFuel || s.Bytes() != before {
		t.Error("fuel", r)
	}
	if r := do(t, d, 9, call("drop", 3)); r.Err != api.OK || len(r.Reply) != 0 || s.Window("y").Seen() != 2 || s.Window("v").Seen() != 2 {
		t.Error("a call's flow", r)
	}
	if r := do(t, d, 10, Command{Kind: Ack, Name: "out", Id: 1}); r.Err != api.OK {
		t.Error(r)
	}
	if a, b := s.Ends("out"); a != 1 || b != 3 {
		t.Error(a, b)
	}
	if r := do(t, d, 11, Command{Kind: Ack, Name: "out", Id: 7}); !reflect.DeepEqual(r, Result{Seq: 11, Err: api.ErrGap}) {
		t.Error("Ack's error", r)
	}
}

// P25.1: what is handed in isn't kept
func TestOwnMemory(t *testing.T) {
	d := made(t, 9)
	x := batch("in1", 1, ints(1))
	submit(t, d, 0, x)
	x.Rows[0][0] = value.Int(8)
	if d.Run(); d.Results()[0].Err != api.OK {
		t.Error("the rows are kept")
	}
}

func wants(l []lock.Want) string {
	var b []string
	for _, w := range l {
		s := w.Name
		if w.Write {
			s += "!"
		}
		b = append(b, s)
	}
	return strings.Join(b, " ")
}

// P25.2
func TestLocksBound(t *testing.T) {
	c := given(t)
	for _, x := range []struct {
		x     Command
		locks string
		bound int
	}{
		{call("put", 4, 1), "acc! acc.1! out!", 107}, {call("add", -1), "acc! acc.2!", 107}, {call("look", 3), "acc.0", 107}, {call("all"), "acc.0 acc.1 acc.2 note.0 y!", 107},
		{call("drop", 1), "acc! acc.0! acc.1! acc.2! note! note.0! out! v! y! z!", 4 + 3*103}, {call("burn"), "note! note.0!", 16},
		{batch("in1", 9), "acc! acc.0! acc.1! acc.2! in1! note! note.0! out! v! w! z!", 4 + 3*103}, {batch("in2", 0, nil), "acc! acc.0! acc.1! acc.2! in2! note! note.0! out! y! z!", 4 + 3*103},
		{Command{Kind: Ack, Name: "out"}, "out!", 4}, {Command{Kind: Ack, Name: "out", Id: -1}, "", 4}, {Command{Kind: Ack, Name: "w"}, "", 4}, {call("x"), "", 4}, {batch("x", 1), "", 4}, {Command{Kind: 7, Name: "in1"}, "", 4},
	} {
		if l := Locks(c, x.x); wants(l) != x.locks || Bound(c, x.x) != x.bound {
			t.Errorf("%v: %s, %d", x.x, wants(l), Bound(c, x.x))
		}
	}
	for _, x := range []Command{call("look"), call("a"), batch("mid", 1), {Kind: Call, Name: "all"}} {
		if Locks(c, x) != nil {
			t.Error(x)
		}
	}
	other, _, _ := catalog.Parse("stream in1(x int); stream in2(x int); sink in3(x int); window w on in1 from q tuples 1; window v on in2 from q tuples 1; proc q(k int) on k { delete r in t; } proc p() from in1 {} table t(a int) key (a) limit 1;")
	for want, x := range map[string]Command{"in1! w!": batch("in1", 1), "in2! v!": batch("in2", 1), "t! t.0! v! w!": call("q", 5)} {
		if l := Locks(other, x); wants(l) != want {
			t.Errorf("%s, not %s", wants(l), want)
		}
	}
	c.Tables[0].Parts = math.MaxInt
	if Locks(c, call("all")) != nil {
		t.Error("a catalog that isn't right")
	}
}

// P25.3
func TestEncode(t *testing.T) {
	for _, x := range []Command{call("put", 1, 2), call("all"), batch("in1", math.MaxInt), {Kind: Ack, Name: "out", Id: 0}, batch("zz", 0, ints(1), nil, []api.Value{value.Text(strings.Repeat("x", 200)), value.Bool(true)})} {
		b, e := Encode(x)
		if want := new(codec.Writer).Size(x.Kind, x.Id).Text(x.Name).Rows(x.Rows...).String(); b != want || e != api.OK {
			t.Errorf("%v: %q, %d", x, b, e)
		}
		if y, e := Decode(b); y.Kind != x.Kind || y.Id != x.Id || y.Name != x.Name || fmt.Sprint(y.Rows) != fmt.Sprint(x.Rows) || e != api.OK {
			t.Error(x, y, e)
		}
		for i := range b {
			if y, e := Decode(b[:i]); !reflect.DeepEqual(y, Command{}) || e != api.ErrForm {
				t.Error("cut off", i)
			}
		}
		if _, e := Decode(b + "\x00"); e != api.ErrForm {
			t.Error("more")
		}
	}
	many := make([][]api.Value, 33)
	nine := make([]api.Value, 9)
	for i := range nine {
		nine[i] = value.Int(1)
	}
	for what, x := range map[string]Command{"kind 0": {Name: "a"}, "kind 4": {Kind: 4, Name: "a"}, "no name": {Kind: 1}, "a name": {Kind: 1, Name: "A"}, "id": {Kind: 1, Name: "a", Id: -1}, "33 rows": batch("a", 1, many...), "nine values": batch("a", 1, nine), "a value": batch("a", 1, []api.Value{{}})} {
		if b, e := Encode(x); b != "" || e != api.ErrArg {
			t.Error(what, e)
		}
		if _, e := Decode(new(codec.Writer).Size(x.Kind, x.Id).Text(x.Name).Rows(x.Rows...).String()); e != api.ErrForm && what != "a value" && what != "id" {
			t.Error(what, "read")
		}
	}
	for _, x := range []Command{batch("a", 1, many[:32]...), batch("a", 1, nine[1:])} {
		b, e := Encode(x)
		if y, f := Decode(b); e != api.OK || f != api.OK || len(y.Rows) != len(x.Rows) {
			t.Error("as many as may be", e, f)
		}
	}
}

// some is a command that may be refused.
func some(r *rand.Rand, marks map[string]int) Command {
	n := func(k int) int64 { return r.Int63n(int64(k)) }
	names := []string{"put", "add", "look", "all", "drop", "fail", "burn"}
	switch r.Intn(9) {
	case 0, 1, 2:
		x := batch("in1", marks["in1"]+1+r.Intn(20)/19)
		for range r.Intn(4) {
			x.Rows = append(x.Rows, ints(n(9)))
		}
		return x
	case 3, 4:
		x := batch("in2", marks["in2"]+1)
		for range r.Intn(4) {
			x.Rows = append(x.Rows, ints(n(9), n(4)-1))
		}
		return x
	case 5:
		return Command{Kind: Ack, Name: "out", Id: r.Intn(8)}
	}
	name := names[r.Intn(len(names))]
	switch name {
	case "all", "burn":
		return call(name)
	case "put":
		return call(name, n(9), n(5))
	}
	return call(name, n(9))
}

// P25.4, and P1, P3, P4 of the whole: whatever is picked, all is as one by one
func TestOneByOne(t *testing.T) {
	for seed := range int64(250) {
		r := rand.New(rand.NewSource(seed))
		d, serial := made(t, 1+r.Intn(12)), made(t, 1)
		marks := map[string]int{}
		var results, expected []Result
		picks, bounds := map[int]int{}, map[int]int{}
		seq := 0
		for seq < 30 || d.Waiting() > 0 {
			if l := d.Enabled(); len(l) > 0 && (r.Intn(4) > 0 || seq >= 30) {
				one := l[r.Intn(len(l))]
				if d.Pick(one) != api.OK {
					t.Fatal("it is enabled")
				}
				if picks[one]++; picks[one] > bounds[one] {
					t.Fatal("more picks than its bound")
				}
				continue
			} else if len(l) == 0 && d.Waiting() > 0 {
				t.Fatal("one waits, and none is enabled")
			}
			x := some(r, marks)
			e := d.Submit(seq, x)
			if e == api.ErrBusy {
				continue
			}
			if f := serial.Submit(seq, x); f != e {
				t.Fatal(x, e, f)
			}
			if e == api.OK {
				if x.Kind == Batch {
					marks[x.Name] = x.Id
				}
				serial.Run()
				expected = append(expected, serial.Results()...)
				bounds[seq] = Bound(given(t), x)
				seq += 1 + r.Intn(2)
			}
			results = append(results, d.Results()...)
		}
		results = append(results, d.Results()...)
		by := map[int]Result{}
		for _, x := range results {
			by[x.Seq] = x
		}
		for _, x := range expected {
			if !reflect.DeepEqual(by[x.Seq], x) {
				t.Fatalf("seed %d: %v, not %v", seed, by[x.Seq], x)
			}
		}
		if len(results) != len(expected) || d.State().Bytes() != serial.State().Bytes() {
			t.Fatalf("seed %d: another state", seed)
		}
	}
}
