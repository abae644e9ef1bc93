package engine_test

import (
	"fmt"
	"math/rand"
	"reflect"
	"strings"
	"testing"

	"afflux/api"
	"afflux/catalog"
	"afflux/codec"
	"afflux/disk"
	. "afflux/engine"
	"afflux/sched"
	"afflux/seal"
	"afflux/snap"
	"afflux/state"
	"afflux/value"
)

const text = `table t(a int, n int) key (a) limit 30 parts 2 by a;
stream in1(x int); stream mid(x int);
sink out(x int);
window w on in1 from first tuples 3 slide 2;
proc first() from in1 { for r in batch { emit mid(r.x + count(k in w)); } }
proc second() from mid { for r in batch { if r.x = 13 { abort r.x; } insert t(1000 / r.x + count(q in t) * 10000, r.x); emit out(r.x); } }
proc put(a int, n int) on a { insert t(a, n); emit out(n); reply count(r in t), 'put'; }
proc drop(a int) { delete r in t where r.a % 5 = a % 5; }
proc get(a int) on a { reply sum(r in t where r.a = a: r.n); }
`

func given(t *testing.T) api.Catalog {
	t.Helper()
	c, at, e := catalog.Parse(text)
	if e != api.OK {
		t.Fatal(at, e)
	}
	return c
}

func deployed(t *testing.T, d *disk.Disk) *Engine {
	t.Helper()
	g, e := Deploy(d, given(t), 20)
	if e != api.OK {
		t.Fatal(e)
	}
	return g
}

func opened(t *testing.T, d *disk.Disk) *Engine {
	t.Helper()
	g, e := Open(d, 20)
	if e != api.OK {
		t.Fatal(e)
	}
	return g
}

func want(t *testing.T, what string, have, e api.Errno) {
	t.Helper()
	if have != e {
		t.Errorf("%s: %d, not %d", what, have, e)
	}
}

func ints(l ...int64) []api.Value {
	var row []api.Value
	for _, n := range l {
		row = append(row, value.Int(n))
	}
	return row
}

func call(name string, args ...int64) sched.Command {
	return sched.Command{Kind: sched.Call, Name: name, Rows: [][]api.Value{ints(args...)}}
}

func batch(id int, l ...int64) sched.Command {
	x := sched.Command{Kind: sched.Batch, Name: "in1", Id: id}
	for _, n := range l {
		x.Rows = append(x.Rows, ints(n))
	}
	return x
}

func submit(t *testing.T, g *Engine, x sched.Command) int {
	t.Helper()
	n, e := g.Submit(x)
	if e != api.OK {
		t.Fatal(e)
	}
	return n
}

// P27.1
func TestDeploy(t *testing.T) {
	d := disk.New(1 << 20)
	for what, c := range map[string]struct {
		d    *disk.Disk
		c    api.Catalog
		room int
		want api.Errno
	}{"no disk": {nil, given(t), 1, api.ErrArg}, "no room": {d, given(t), 0, api.ErrArg}, "too much room": {d, given(t), 1001, api.ErrArg}, "a catalog": {d, api.Catalog{Procs: []api.Proc{{}}}, 1, api.ErrArg}, "full": {disk.New(40), given(t), 1, api.ErrFull}} {
		if g, e := Deploy(c.d, c.c, c.room); g != nil || e != c.want {
			t.Error(what, e)
		}
	}
	broken := api.Catalog{Procs: []api.Proc{{Name: "p", Fuel: 1, Body: []api.Stmt{{Op: api.SReply, Exprs: []api.Expr{{Op: api.XText, S: "\n"}}}}}}}
	if _, e := Deploy(d, broken, 1); e != api.ErrArg || d.Names() != nil {
		t.Error("Print's error", e)
	}
	for _, file := range []string{"mark", "log.00000007", "log.99999999"} {
		x := disk.New(1 << 20)
		x.Put(file, "")
		if g, e := Deploy(x, api.Catalog{Procs: []api.Proc{{}}}, 1); g != nil || e != api.ErrTwice {
			t.Error(file, e)
		}
	}
	if g, e := Deploy(disk.New(1<<20), given(t), 1000); g == nil || e != api.OK {
		t.Error("room for 1000", e)
	}
	d.Put("log.x", "")
	d.Put("log.000000a0", "")
	g := deployed(t, d)
	if g.Next() != 0 || g.Safe() != 0 || g.Waiting() != 0 || g.Err() != api.OK || !catalog.Same(g.State().Catalog(), given(t)) || !reflect.DeepEqual(d.Names(), []string{"log.000000a0", "log.x", "mark", "s.00000000"}) {
		t.Error(d.Names())
	}
	n, data, e := snap.Load(d)
	printed, _ := catalog.Print(given(t))
	s, _ := state.New(given(t))
	if n != 0 || data != new(codec.Writer).Text(printed, s.Bytes()).String() || e != api.OK {
		t.Error("the snapshot")
	}
	d.Arm(0)
	d.Sync()
	if _, e := Deploy(d, given(t), 1); e != api.ErrOff {
		t.Error("off", e)
	}
	if _, e := Open(d, 1); e != api.ErrOff {
		t.Error("off", e)
	}
}

// P27.2, and examples 6 and 7 of the whole
func TestCommands(t *testing.T) {
	d := disk.New(1 << 20)
	g := deployed(t, d)
	if n := submit(t, g, call("put", 1, 7)); n != 0 || g.Next() != 1 || g.Safe() != 0 || g.Waiting() != 1 || len(g.Enabled()) != 1 {
		t.Error("accepted", n)
	}
	if n, e := g.Submit(call("put", 1)); n != 0 || e != api.ErrType {
		t.Error("Check's error", e)
	}
	if n, e := g.Submit(sched.Command{Kind: sched.Call, Id: -1, Name: "put", Rows: [][]api.Value{ints(1, 1)}}); n != 0 || e != api.ErrArg {
		t.Error("Encode's error", e)
	}
	_, e := g.Reply(0)
	want(t, "it isn't done", e, api.ErrBusy)
	_, e = g.Reply(1)
	want(t, "none", e, api.ErrNone)
	want(t, "Pick", g.Pick(1), api.ErrNone)
	want(t, "Pick", g.Pick(0), api.OK)
	if want(t, "Pick", g.Pick(0, 0, 0, 0, 0), api.OK); g.Waiting() != 0 || g.Run() != 0 {
		t.Error("it is done")
	}
	_, e = g.Reply(0)
	want(t, "it isn't safe", e, api.ErrBusy)
	l, e := g.Poll("out", 0, 9)
	if l != nil || e != api.OK {
		t.Error("nothing goes out yet", l, e)
	}
	want(t, "Commit", g.Commit(), api.OK)
	if l, _ := g.Poll("out", 0, 9); !reflect.DeepEqual(l, []state.Output{{Seq: 0, Row: ints(7)}}) || g.Safe() != 1 {
		t.Error(l)
	}
	r, e := g.Reply(0)
	if value.Line(r.Reply...) != "1, 'put'" || e != api.OK {
		t.Error(r, e)
	}
	r.Reply[0] = value.Int(9)
	if r, _ := g.Reply(0); r.Reply[0] != value.Int(1) {
		t.Error("new memory")
	}
	submit(t, g, call("put", 2, 8))
	g.Run()
	if l, _ := g.Poll("out", 0, 9); len(l) != 1 {
		t.Error("as far as the numbers are safe", l)
	}
	for from, e := range map[int]api.Errno{-1: api.ErrArg, 5: api.OK} {
		if l, f := g.Poll("out", from, 9); l != nil || f != e {
			t.Error(from, l, f)
		}
	}
	if _, e := g.Poll("x", 0, 9); e != api.ErrNone {
		t.Error("no sink")
	}
	d.Crash()
	g = opened(t, d)
	if g.Next() != 1 || g.State().Table("t").Len() != 1 {
		t.Error("the second one never was")
	}
	if l, _ := g.Poll("out", 0, 9); !reflect.DeepEqual(l, []state.Output{{Seq: 0, Row: ints(7)}}) {
		t.Error("it goes out as it was", l)
	}
	if r, e := g.Reply(0); value.Line(r.Reply...) != "1, 'put'" || e != api.OK {
		t.Error("done as it was opened", r, e)
	}
	if submit(t, g, call("get", 1)) != 1 {
		t.Error("the next number")
	}
}

// P27.2
func TestFull(t *testing.T) {
	g := deployed(t, disk.New(2000))
	n := 0
	for ; n < 100; n++ {
		if no, e := g.Submit(batch(n+1, 1)); e != api.OK {
			if no != 0 {
				t.Error(no)
			}
			want(t, "no room", e, api.ErrFull)
			break
		}
		g.Run()
	}
	if n == 0 || n == 100 || g.Next() != n || g.State().Border("in1").Mark() != n || g.Err() != api.OK || g.Commit() != api.OK || g.Safe() != n {
		t.Error("nothing has changed", n)
	}
	want(t, "no room for a snapshot", g.Snapshot(), api.ErrFull)
	if g.Err() != api.OK {
		t.Error("it doesn't stay")
	}
}

// P27.3
func TestSnapshot(t *testing.T) {
	d := disk.New(1 << 20)
	g := deployed(t, d)
	uses := d.Uses()
	want(t, "the same number", g.Snapshot(), api.OK)
	if d.Uses() != uses {
		t.Error("nothing is done")
	}
	submit(t, g, call("put", 1, 7))
	want(t, "some wait", g.Snapshot(), api.ErrState)
	g.Run()
	want(t, "Snapshot", g.Snapshot(), api.OK)
	if !reflect.DeepEqual(d.Names(), []string{"log.00000000", "mark", "s.00000001"}) || g.Safe() != 1 {
		t.Error(d.Names())
	}
	if r, e := g.Reply(0); r.Err != api.OK || e != api.OK {
		t.Error("it is told still")
	}
	for range 700 {
		submit(t, g, call("get", 1))
		g.Run()
	}
	if g.Commit(); len(d.Names("log.")) < 2 {
		t.Fatal(d.Names())
	}
	want(t, "Snapshot", g.Snapshot(), api.OK)
	if len(d.Names()) != 3 || d.Names()[2] != "s.00000701" {
		t.Error("what is below is forgotten", d.Names())
	}
	before := g.State().Bytes()
	d.Crash()
	g = opened(t, d)
	if g.State().Bytes() != before || g.Next() != 701 {
		t.Error("as it was")
	}
	if _, e := g.Reply(700); e != api.ErrNone {
		t.Error("ahead of the snapshot", e)
	}
	if submit(t, g, call("get", 1)) != 701 {
		t.Error("the next number")
	}
}

// P27.2, P27.3: the error that stays
func TestErrorStays(t *testing.T) {
	for what, fail := range map[string]func(*Engine) api.Errno{
		"Submit": func(g *Engine) api.Errno { _, e := g.Submit(call("get", 1)); return e }, "Commit": (*Engine).Commit, "Snapshot": (*Engine).Snapshot,
	} {
		d := disk.New(1 << 20)
		g := deployed(t, d)
		submit(t, g, call("put", 1, 7))
		g.Run()
		d.Arm(0)
		want(t, what, fail(g), api.ErrOff)
		d.Crash()
		_, e := g.Submit(sched.Command{})
		for _, e := range []api.Errno{e, g.Commit(), g.Pick(), g.Snapshot(), g.Err()} {
			want(t, what+" stays", e, api.ErrOff)
		}
	}
	d := disk.New(1 << 20)
	g := deployed(t, d)
	submit(t, g, call("put", 1, 7))
	g.Run()
	d.Arm(3)
	want(t, "within Save", g.Snapshot(), api.ErrOff)
	n, e := g.Submit(call("get", 1))
	if want(t, "within Save", e, api.ErrOff); n != 0 {
		t.Error(n)
	}
	if g.Err() != api.ErrOff || g.Run() != 0 || g.State().Table("t").Len() != 1 {
		t.Error("it stays")
	}
	if r, e := g.Reply(0); r.Err != api.OK || e != api.OK {
		t.Error("what is safe is told")
	}
	d = disk.New(1 << 20)
	g = deployed(t, d)
	submit(t, g, call("put", 1, 7))
	d.Arm(0)
	g.Submit(call("put", 2, 7))
	if g.Run() != 0 || g.Waiting() != 1 || len(g.Enabled()) != 1 || g.Pick(9) != api.ErrOff || g.Pick(0) != api.ErrOff {
		t.Error("with one Run does nothing")
	}
}

// P27.1 to P27.3 of a nil engine
func TestNil(t *testing.T) {
	var g *Engine
	n, e := g.Submit(call("x"))
	r, e2 := g.Reply(0)
	l, e3 := g.Poll("x", 0, 1)
	for _, e := range []api.Errno{e, e2, e3, g.Commit(), g.Pick(), g.Snapshot(), g.Err()} {
		want(t, "nil", e, api.ErrArg)
	}
	if n != 0 || !reflect.DeepEqual(r, sched.Result{}) || l != nil || g.Run() != 0 || g.Enabled() != nil || g.Waiting() != 0 || g.State() != nil || g.Next() != 0 || g.Safe() != 0 {
		t.Error("nil")
	}
}

func record(seq int, x sched.Command) string {
	b, _ := sched.Encode(x)
	return frame(seq, b)
}

func frame(seq int, b string) string {
	f, _ := seal.Frame("\x00\x00\x00\x00", string([]byte{byte(seq >> 24), byte(seq >> 16), byte(seq >> 8), byte(seq)}), b)
	return f
}

// P27.1, P5 of the whole: what lies on the disk
func TestOpenWhatLies(t *testing.T) {
	if _, e := Open(nil, 1); e != api.ErrArg {
		t.Error("no disk")
	}
	if _, e := Open(disk.New(1), 0); e != api.ErrArg {
		t.Error("no room")
	}
	if _, e := Open(disk.New(1), 1001); e != api.ErrArg {
		t.Error("too much room")
	}
	wide := disk.New(1 << 20)
	deployed(t, wide)
	if g, e := Open(wide, 1000); g == nil || e != api.OK {
		t.Error("room for 1000", e)
	}
	printed, _ := catalog.Print(given(t))
	first, _ := state.New(given(t))
	data := func(text, state string) string { return new(codec.Writer).Text(text, state).String() }
	good := data(printed, first.Bytes())
	put := call("put", 1, 2)
	for what, c := range map[string]struct {
		n     int
		data  string
		files map[string]string
		e     api.Errno
		next  int
	}{
		"as it was deployed":            {0, good, nil, api.OK, 0},
		"another text of a catalog":     {0, data(strings.ReplaceAll(printed, "\n", "\n  // x\n"), first.Bytes()), nil, api.OK, 0},
		"what doesn't count":            {0, good, map[string]string{"s.x": "x", "mark.new": "x", "log.x": "x"}, api.OK, 0},
		"records":                       {0, good, map[string]string{"log.00000000": record(0, put) + record(1, put)}, api.OK, 2},
		"a torn record":                 {0, good, map[string]string{"log.00000000": record(0, put) + record(1, put)[:9]}, api.OK, 1},
		"records ahead of the snapshot": {2, good, map[string]string{"log.00000000": frame(0, "junk") + frame(1, "") + record(2, put)}, api.OK, 3},
		"all records are ahead":         {2, good, map[string]string{"log.00000000": frame(0, "junk") + frame(1, "")}, api.OK, 2},
		"no log":                        {7, good, nil, api.OK, 7},
		"a log's file without a mark":   {-1, "", map[string]string{"log.00000000": ""}, api.ErrCorrupt, 0},
		"no mark":                       {-1, "", map[string]string{"s.00000000": "x", "log.x": "x"}, api.ErrNone, 0},
		"no snapshot":                   {0, good, map[string]string{"s.00000000": "x"}, api.ErrCorrupt, 0},
		"no data":                       {0, "", nil, api.ErrCorrupt, 0},
		"more data":                     {0, good + "\x00", nil, api.ErrCorrupt, 0},
		"a catalog that isn't right":    {0, data("proc p() { reply x; }", first.Bytes()), nil, api.ErrCorrupt, 0},
		"no catalog":                    {0, data("junk", first.Bytes()), nil, api.ErrCorrupt, 0},
		"another catalog's state":       {0, data("table t(a int) key (a) limit 5;", first.Bytes()), nil, api.ErrCorrupt, 0},
		"no state":                      {0, data(printed, first.Bytes()+"\x00"), nil, api.ErrCorrupt, 0},
		"a first record above":          {0, good, map[string]string{"log.00000001": record(1, put)}, api.ErrCorrupt, 0},
		"the next one below":            {3, good, map[string]string{"log.00000001": record(1, put)}, api.ErrCorrupt, 0},
		"a log that is corrupt":         {0, good, map[string]string{"log.00000000": record(0, put), "log.00000002": record(2, put)}, api.ErrCorrupt, 0},
		"a record that is no command":   {0, good, map[string]string{"log.00000000": frame(0, "junk")}, api.ErrCorrupt, 0},
		"one that may not be accepted":  {0, good, map[string]string{"log.00000000": record(0, call("zz"))}, api.ErrCorrupt, 0},
		"a batch that was there":        {0, good, map[string]string{"log.00000000": record(0, batch(1, 2)) + record(1, batch(1, 2))}, api.ErrCorrupt, 0},
	} {
		d := disk.New(1 << 20)
		if c.n >= 0 {
			snap.Save(d, c.n, c.data)
		}
		for name, s := range c.files {
			d.Put(name, s)
		}
		g, e := Open(d, 1)
		if e != c.e || (g == nil) != (e != api.OK) || g.Next() != c.next || g.Safe() != c.next {
			t.Error(what, e, g.Next())
		}
		if e == api.OK && (len(d.Names("s.")) != 1 || len(d.Names("mark")) != 1) {
			t.Error(what, "what doesn't count is swept", d.Names())
		}
	}
}

// P5 of the whole, and example 10
func TestSpoilt(t *testing.T) {
	r := rand.New(rand.NewSource(14))
	d := disk.New(1 << 20)
	g := deployed(t, d)
	for i := range 5 {
		submit(t, g, batch(i+1, int64(i), 3))
		g.Run()
	}
	g.Snapshot()
	submit(t, g, batch(6, 1))
	g.Run()
	g.Commit()
	files := map[string]string{}
	for _, name := range d.Names() {
		files[name], _ = d.Read(name)
	}
	for range 3000 {
		x := disk.New(1 << 20)
		names := d.Names()
		name := names[r.Intn(len(names))]
		b := []byte(files[name])
		for range 1 + r.Intn(3) {
			switch at := r.Intn(len(b) + 1); r.Intn(3) {
			case 0:
				b = b[:at]
			case 1:
				b = append(b, byte(r.Intn(256)))
			default:
				if at < len(b) {
					b[at] ^= 1 << r.Intn(8)
				}
			}
			if len(b) == 0 {
				break
			}
		}
		for n, s := range files {
			x.Put(n, s)
		}
		x.Put(name, string(b))
		got, e := Open(x, 5)
		if e != api.OK && e != api.ErrCorrupt || (got == nil) != (e != api.OK) {
			t.Fatal(name, e)
		}
		if e == api.OK && got.State().Border("in1").Mark() < 5 {
			t.Fatal("another state")
		}
		if string(b) != files[name] && name[0] != 'l' && e == api.OK {
			t.Fatal(name, "was spoilt, and is opened")
		}
	}
}

// world is an engine under test, and all that must hold of it.
type world struct {
	t        *testing.T
	r        *rand.Rand
	d        *disk.Disk
	g        *Engine
	accepted []sched.Command
	safe     int
	polled   []state.Output
	mark     int
}

// serial is the state behind commands, one by one, and their results.
func serial(t *testing.T, l []sched.Command) (*state.State, []sched.Result) {
	t.Helper()
	s, _ := state.New(given(t))
	d := sched.New(s, 1)
	for i, x := range l {
		if e := d.Submit(i, x); e != api.OK {
			t.Fatal(e)
		}
		d.Run()
	}
	return s, d.Results()
}

func (w *world) act() {
	g, r := w.g, w.r
	switch r.Intn(12) {
	case 0:
		g.Commit()
	case 1:
		g.Run()
	case 2:
		g.Snapshot()
	case 3, 4, 5, 6:
		if l := g.Enabled(); len(l) > 0 {
			g.Pick(l[r.Intn(len(l))])
		}
	case 7:
		if l, e := g.Poll("out", len(w.polled), 5); e == api.OK {
			w.polled = append(w.polled, l...)
		}
	default:
		x := []sched.Command{batch(w.g.State().Border("in1").Mark()+1, r.Int63n(15), r.Int63n(4)-1), call("put", r.Int63n(40), 5), call("drop", r.Int63n(40)), call("get", r.Int63n(40))}[r.Intn(4)]
		n, e := g.Submit(x)
		if e == api.OK {
			if n != len(w.accepted) {
				w.t.Fatal("another number")
			}
			w.accepted = append(w.accepted, x)
		}
	}
	w.safe = max(w.safe, g.Safe())
}

func (w *world) check() {
	t, g := w.t, w.g
	t.Helper()
	if g.Next() < w.safe || g.Next() > len(w.accepted) || g.Safe() != g.Next() || g.Waiting() != 0 {
		t.Fatalf("%d of %d, %d were safe", g.Next(), len(w.accepted), w.safe)
	}
	w.accepted = w.accepted[:g.Next()]
	w.safe = g.Next()
	s, results := serial(t, w.accepted)
	if s.Bytes() != g.State().Bytes() {
		t.Fatal("another state")
	}
	for i, want := range results {
		if got, e := g.Reply(i); e == api.OK && !reflect.DeepEqual(got, want) || e != api.OK && e != api.ErrNone {
			t.Fatal("another reply", got, want, e)
		}
	}
	if l, e := g.Poll("out", 0, 100000); e != api.OK || len(l) < len(w.polled) || len(w.polled) > 0 && !reflect.DeepEqual(l[:len(w.polled)], w.polled) {
		t.Fatal("what was polled is told otherwise")
	}
}

// P27.4, P2 of the whole: crashes anywhere, within Open, too
func TestCrashes(t *testing.T) {
	for seed := range int64(150) {
		r := rand.New(rand.NewSource(seed))
		w := &world{t: t, r: r, d: disk.New(1 << 20)}
		w.g = deployed(t, w.d)
		for range 5 {
			w.d.Arm(r.Intn(60))
			for range 80 {
				if w.act(); w.g.Err() != api.OK {
					break
				}
			}
			for {
				keep := make([]int, 8)
				for i := range keep {
					keep[i] = r.Intn(3) * r.Intn(200)
				}
				w.d.Crash(keep...)
				w.d.Arm(r.Intn(8))
				var e api.Errno
				if w.g, e = Open(w.d, 20); e == api.OK {
					break
				} else if e != api.ErrOff {
					t.Fatal(seed, e)
				}
			}
			w.d.Crash(0)
			w.g = opened(t, w.d)
			w.check()
		}
	}
}

// P27.4: a crash at each use of a Deploy, a run and a snapshot
func TestEachUse(t *testing.T) {
	for at := 0; ; at++ {
		d := disk.New(1 << 20)
		d.Arm(at)
		g, e := Deploy(d, given(t), 5)
		for i := 0; i < 4 && e == api.OK; i++ {
			_, e = g.Submit(batch(i+1, int64(i)))
			g.Run()
			if e == api.OK && i%2 == 1 {
				e = g.Snapshot()
			}
		}
		d.Crash(5, 5, 5)
		h, f := Open(d, 5)
		switch {
		case f == api.ErrNone && g == nil:
		case f != api.OK:
			t.Fatal(at, f)
		case h.State().Border("in1").Mark() != h.Next() || h.Next() < g.Safe():
			t.Fatal(at, h.Next())
		}
		if e == api.OK {
			if at < 20 {
				t.Error("few uses", at)
			}
			return
		}
	}
}

func ExampleEngine() {
	c, _, _ := catalog.Parse("table t(a int) key (a) limit 9; proc put(a int) { insert t(a); reply count(r in t); }")
	d := disk.New(100000)
	g, _ := Deploy(d, c, 10)
	seq, _ := g.Submit(sched.Command{Kind: sched.Call, Name: "put", Rows: [][]api.Value{{value.Int(7)}}})
	g.Run()
	g.Commit()
	d.Crash()
	g, _ = Open(d, 10)
	r, _ := g.Reply(seq)
	fmt.Println(value.Line(r.Reply...), g.State().Table("t").Len())
	// Output: 1 1
}
