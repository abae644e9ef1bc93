// Package monkey calls whatever the chapters list with whatever it finds: every call ends, and none panics.
package monkey

import (
	"fmt"
	"math"
	"math/rand"
	"reflect"
	"slices"
	"strings"
	"testing"
	"time"

	"afflux/api"
	"afflux/calc"
	"afflux/catalog"
	"afflux/codec"
	"afflux/disk"
	"afflux/engine"
	"afflux/eval"
	"afflux/flow"
	"afflux/lex"
	"afflux/lock"
	"afflux/machine"
	"afflux/parse"
	"afflux/print"
	"afflux/queue"
	"afflux/sched"
	"afflux/schema"
	"afflux/script"
	"afflux/seal"
	"afflux/snap"
	"afflux/state"
	"afflux/stream"
	"afflux/syntax"
	"afflux/table"
	"afflux/tree"
	"afflux/types"
	"afflux/undo"
	"afflux/value"
	"afflux/wal"
	"afflux/window"
)

const text = `table t(a int, b text) key (a) unique (b) limit 9 parts 2 by a; stream in1(x int); stream mid(x int); sink out(x int);
window w on in1 from p tuples 3 slide 2; proc p() from in1 { for r in batch { emit mid(r.x + count(k in w)); emit out(r.x); } }
proc q(a int, b text) on a { insert t(a, b); for r in t { reply r.a, r.b; } } proc a() { update r in t set b = 'x'; emit mid(1); }`

const body = "proc p(x int) on x { for r in t where r.a > x limit 3 { delete k in t where k.a = r.a; } reply count(r in t), 'it''s'; }"

func functions() []any {
	return []any{
		calc.Add, calc.Mul, calc.Sub, calc.Neg, calc.Div, calc.Mod, calc.Least, calc.Most, calc.Parse, calc.Print,
		value.Int, value.Text, value.Bool, value.Right, value.Cmp, value.Rows, value.Key, value.Unkey, value.Print, value.Parse, value.Line, value.Spread,
		schema.Named, schema.Right, schema.Col, schema.Fits, schema.Pick, schema.Key, schema.Keys, schema.Part, schema.Same, schema.Copy, schema.Zero,
		codec.Read, seal.Of, seal.Frame, seal.Open, seal.All, disk.New, wal.Open, tree.New[int], table.New, undo.Track, lex.Words, lex.On,
		syntax.Reserved, syntax.Free, syntax.RightExpr, syntax.Right, syntax.SizeExpr, syntax.Size, syntax.SameExpr, syntax.Same, syntax.Reads, syntax.Writes, syntax.Emits, syntax.Copy,
		parse.Proc, parse.Expr, parse.Body, print.Expr, print.Proc, types.Cols, types.Row, types.Table, types.Kind, types.Fits, types.Fault, eval.New, machine.NewSite, machine.New,
		stream.Fits, stream.Same, stream.NewBorder, stream.NewLine, stream.Bytes, stream.Read, window.Right, window.New,
		flow.Borders, flow.Consumers, flow.Emitters, flow.Round, flow.Rank, flow.Flow, flow.After, catalog.Check, catalog.Parse, catalog.Print, catalog.Same, catalog.Copy, catalog.Proc, catalog.Names,
		lock.Clash, lock.Union, lock.New, queue.New[string], state.New, sched.New, sched.Locks, sched.Bound, sched.Encode, sched.Decode, snap.Save, snap.Load, snap.Sweep, snap.Need, snap.Name,
		engine.Deploy, engine.Open, script.New, script.Right, script.Print, script.Parse, script.Play,
	}
}

// objects is a nil one of each type of objects.
func objects() []any {
	return []any{(*codec.Bytes)(nil), (*codec.Writer)(nil), (*codec.Reader)(nil), (*calc.Total)(nil), (*seal.Sum)(nil), (*disk.Power)(nil), (*disk.Disk)(nil), (*wal.Log)(nil), (*tree.Tree[int])(nil), (*table.Table)(nil), (*undo.Journal)(nil), (*undo.Table)(nil), (*lex.Cursor)(nil),
		(*eval.Fuel)(nil), (*eval.Env)(nil), (*machine.Site)(nil), (*machine.Machine)(nil), (*stream.Border)(nil), (*stream.Line)(nil), (*window.Window)(nil), (*lock.Table)(nil), (*queue.Queue[string])(nil), (*state.State)(nil), (*sched.Sched)(nil), (*engine.Engine)(nil), (*script.World)(nil)}
}

// seeds is what may stand anywhere at first: zero values of all objects, too.
func seeds(t *testing.T) []any {
	c, _, e := catalog.Parse(text)
	p, _, f := parse.Proc(body)
	if e != api.OK || f != api.OK {
		t.Fatal(e, f)
	}
	round := []api.Expr{{Op: api.XNot}}
	round[0].Args = round
	call := sched.Command{Kind: 2, Name: "q", Rows: [][]api.Value{{value.Int(4), value.Text("z")}}}
	batch := sched.Command{Kind: 1, Name: "in1", Id: 1, Rows: [][]api.Value{{value.Int(4)}}}
	play := script.Script{Room: 1 << 20, Most: 4, Catalog: text, Acts: []script.Act{{X: call}, {X: batch}, {Kind: 3}, {Kind: 1}, {Kind: 8}, {Kind: 6, Name: "out"}}}
	played, _ := script.Print(play)
	d, d2 := disk.New(1<<20), disk.New(1<<20)
	g, _ := engine.Deploy(d, c, 5)
	engine.Deploy(d2, c, 5)
	s, _ := state.New(c)
	encoded, _ := sched.Encode(call)
	framed, _ := seal.Frame(encoded)
	l := []any{c, p, p.Body[0], p.Body[0].Exprs[0], round[0], c.Tables[0], c.Streams[0], c.Windows[0], call, batch, play, g, d, d2, s, sched.New(s, 4), c.Procs[1], api.Proc{Name: "x", Fuel: 1, Body: []api.Stmt{{Op: 10, Exprs: round}}}}
	for _, x := range objects() {
		l = append(l, x, reflect.New(reflect.TypeOf(x).Elem()).Interface())
	}
	for _, x := range []string{"", "a", "t", "w", "in1", "mid", "out", "p", "q", "log", "mark", "x.1", text, body, played, encoded, framed, "1", "-5", "'x'", "true", "\x00", "\xff\x01", "a = 1 or not b", strings.Repeat("(", 70), strings.Repeat("x", 300)} {
		l = append(l, x)
	}
	for _, x := range []int{0, 1, 2, 3, 5, -1, 100, 1000, math.MaxInt, math.MinInt} {
		l = append(l, x, int64(x))
	}
	return append(l, value.Int(4), value.Text("z"), value.Bool(true), api.Value{Kind: 9, N: 3, S: "q"}, api.Value{Kind: 3, N: 1}, true, false, uint64(7))
}

// monkey has all that it found, by types.
type monkey struct {
	r    *rand.Rand
	pool map[reflect.Type][]reflect.Value
}

func (m *monkey) keep(v reflect.Value) {
	l := m.pool[v.Type()]
	if len(l) < 60 {
		m.pool[v.Type()] = append(l, v)
	} else if v.Kind() != reflect.String || v.Len() < 1<<16 {
		l[20+m.r.Intn(40)] = v
	}
}

// some is a value of a type: one that was found, or one that is built of such ones.
func (m *monkey) some(t reflect.Type, deep int) reflect.Value {
	if l := m.pool[t]; len(l) > 0 && m.r.Intn(5) > 0 {
		return l[m.r.Intn(len(l))]
	}
	v := reflect.New(t).Elem()
	if deep == 0 {
		return v
	}
	switch t.Kind() {
	case reflect.Int, reflect.Int64:
		v.SetInt(m.r.Int63n(12) - 2)
	case reflect.String:
		v.SetString(fmt.Sprint("s", m.r.Intn(9)))
	case reflect.Slice:
		for range m.r.Intn(4) {
			v = reflect.Append(v, m.some(t.Elem(), deep-1))
		}
	case reflect.Struct:
		if strings.HasPrefix(t.PkgPath(), "afflux/") {
			for i := range t.NumField() {
				if f := v.Field(i); f.CanSet() && t.Field(i).IsExported() {
					f.Set(m.some(f.Type(), deep-1))
				}
			}
		}
	}
	return v
}

// call calls a function, and keeps what it answers.
func (m *monkey) call(t *testing.T, name string, f reflect.Value) {
	var args []reflect.Value
	for i := range f.Type().NumIn() {
		in := f.Type().In(i)
		if f.Type().IsVariadic() && i == f.Type().NumIn()-1 {
			for range m.r.Intn(4) {
				args = append(args, m.some(in.Elem(), 4))
			}
			break
		}
		args = append(args, m.some(in, 4))
	}
	defer func() {
		if x := recover(); x != nil {
			t.Fatalf("%s of %#v: %v", name, args, x)
		}
	}()
	begun := time.Now()
	out := f.Call(args)
	if took := time.Since(begun); took > 20*time.Second {
		t.Fatalf("%s took %v", name, took)
	}
	for _, v := range out {
		m.keep(v)
	}
}

func TestWhateverIsAsked(t *testing.T) {
	for seed := range int64(20) {
		m := &monkey{r: rand.New(rand.NewSource(seed)), pool: map[reflect.Type][]reflect.Value{}}
		for _, x := range seeds(t) {
			m.keep(reflect.ValueOf(x))
		}
		for range 12000 {
			if l := functions(); m.r.Intn(3) == 0 {
				f := l[m.r.Intn(len(l))]
				m.call(t, fmt.Sprintf("%T", f), reflect.ValueOf(f))
				continue
			}
			m.method(t)
		}
	}
}

// method calls a method of something that was found.
func (m *monkey) method(t *testing.T) {
	l := objects()
	o := m.some(reflect.TypeOf(l[m.r.Intn(len(l))]), 1)
	if o.Type().NumMethod() == 0 {
		return
	}
	i := m.r.Intn(o.Type().NumMethod())
	name := o.Type().Method(i).Name
	if !listed(o, name) {
		return
	}
	m.call(t, o.Type().String()+"."+name, o.Method(i))
}

// listed tells whether a method is one that a chapter lists, of a type that embeds a pointer that may be nil.
func listed(o reflect.Value, name string) bool {
	words := ""
	switch o.Interface().(type) {
	case *machine.Machine:
		words = "Step Run Done Err Code Reply Left"
	case *sched.Sched:
		words = "Check Submit Enabled Pick Waiting Running Results Run State"
	case *engine.Engine:
		words = "Submit Commit Pick Run Enabled Waiting Reply Poll Snapshot State Next Safe Err"
	case *undo.Table:
		words = "Insert Update Delete Clear"
	default:
		return true
	}
	return slices.Contains(strings.Fields(words), name)
}
