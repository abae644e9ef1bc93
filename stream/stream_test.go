package stream_test

import (
	"math"
	"reflect"
	"strings"
	"testing"

	"afflux/api"
	"afflux/codec"
	. "afflux/stream"
	"afflux/value"
)

var cols = []api.Column{{Name: "a", Kind: 1}, {Name: "b", Kind: 2}}

func row(n int64, s string) []api.Value { return []api.Value{value.Int(n), value.Text(s)} }

func many(n int) [][]api.Value {
	var l [][]api.Value
	for i := range n {
		l = append(l, row(int64(i), "x"))
	}
	return l
}

func want(t *testing.T, what string, have, e api.Errno) {
	t.Helper()
	if have != e {
		t.Errorf("%s: %d, not %d", what, have, e)
	}
}

// P18.1
func TestFitsSame(t *testing.T) {
	if !Fits(cols) || !Fits(cols, many(32)...) || Fits(cols, many(33)...) || !Fits(nil, nil, nil) {
		t.Error("Fits")
	}
	for _, bad := range [][]api.Value{nil, row(1, "x")[:1], append(row(1, "x"), value.Int(1)), {value.Text("x"), value.Int(1)}, row(1, strings.Repeat("x", 201))} {
		if Fits(cols, row(1, "x"), bad) {
			t.Error(bad)
		}
	}
	a := Batch{Id: 1, Rows: many(2)}
	if !Same(a, Batch{Id: 1, Rows: many(2)}) || Same(a, Batch{Id: 2, Rows: many(2)}) || Same(a, Batch{Id: 1, Rows: many(1)}) || !Same(Batch{}, Batch{Rows: [][]api.Value{}}) || !Same(Batch{Rows: [][]api.Value{{}}}, Batch{Rows: [][]api.Value{nil}}) {
		t.Error("Same")
	}
}

// P18.1
func TestMakers(t *testing.T) {
	nine := make([]api.Column, 9)
	for i := range nine {
		nine[i] = api.Column{Name: "c" + string(rune('a'+i)), Kind: 3}
	}
	for what, s := range map[string]api.Stream{"name": {Name: "S", Cols: cols}, "no columns": {Name: "s"}, "nine": {Name: "s", Cols: nine}, "the same names": {Name: "s", Cols: []api.Column{cols[0], cols[0]}},
		"kind 0": {Name: "s", Cols: []api.Column{{Name: "a"}}}, "kind 4": {Name: "s", Cols: []api.Column{{Name: "a", Kind: 4}}}, "a column's name": {Name: "s", Cols: []api.Column{{Name: "", Kind: 1}}}} {
		b, e := NewBorder(s)
		l, f := NewLine(s, 1)
		if b != nil || e != api.ErrArg || l != nil || f != api.ErrArg {
			t.Error(what)
		}
	}
	if l, e := NewLine(api.Stream{Name: "s", Cols: cols}, 0); l != nil || e != api.ErrArg {
		t.Error("no room")
	}
	if b, e := NewBorder(api.Stream{Name: "s", Cols: cols[:1]}); b == nil || e != api.OK {
		t.Error("one column")
	}
	if l, e := NewLine(api.Stream{Name: "s", Cols: cols}, 1); l == nil || e != api.OK {
		t.Error("room for one")
	}
	if b, e := NewBorder(api.Stream{Name: "s", Cols: nine[:8]}); b.Name() != "s" || b.Mark() != 0 || e != api.OK {
		t.Error("eight columns")
	}
}

// P18.2
func TestBorder(t *testing.T) {
	s := api.Stream{Name: "s", Cols: append([]api.Column{}, cols...)}
	b, _ := NewBorder(s)
	s.Cols[0].Kind = 3
	for _, c := range []struct {
		x Batch
		e api.Errno
	}{
		{Batch{Id: 0, Rows: many(33)}, api.ErrType}, {Batch{Id: 0}, api.ErrArg}, {Batch{Id: -4}, api.ErrArg}, {Batch{Id: 2}, api.ErrGap}, {Batch{Id: math.MaxInt}, api.ErrGap}, {Batch{Id: 1, Rows: many(32)}, api.OK},
		{Batch{Id: 3}, api.ErrGap}, {Batch{Id: 1}, api.ErrTwice}, {Batch{Id: 2, Rows: many(1)}, api.OK},
	} {
		mark := b.Mark()
		want(t, "Check", b.Check(c.x), c.e)
		if b.Mark() != mark {
			t.Error("Check takes nothing")
		}
		want(t, "Take", b.Take(c.x), c.e)
		if c.e == api.OK && b.Mark() != c.x.Id || c.e != api.OK && b.Mark() != mark {
			t.Error("the mark")
		}
	}
	want(t, "Set", b.Set(-1), api.ErrArg)
	want(t, "Set", b.Set(math.MaxInt), api.OK)
	want(t, "the greatest mark", b.Take(Batch{Id: math.MaxInt}), api.ErrTwice)
	want(t, "Set", b.Set(0), api.OK)
	want(t, "the first again", b.Take(Batch{Id: 1}), api.OK)
	var none *Border
	if none.Name() != "" || none.Check(Batch{Id: 1}) != api.ErrArg || none.Take(Batch{Id: 1}) != api.ErrArg || none.Mark() != 0 || none.Set(1) != api.ErrArg {
		t.Error("nil")
	}
}

// P18.3
func TestLine(t *testing.T) {
	l, _ := NewLine(api.Stream{Name: "s", Cols: cols}, 5)
	want(t, "type", l.Put(Batch{Rows: many(33)}), api.ErrType)
	want(t, "id", l.Put(Batch{}), api.ErrArg)
	x := Batch{Id: 3, Rows: many(3)}
	want(t, "3", l.Put(x), api.OK)
	x.Rows[0][0] = value.Int(9)
	want(t, "the same", l.Put(Batch{Id: 3}), api.ErrArg)
	want(t, "busy", l.Put(Batch{Id: 7, Rows: many(3)}), api.ErrBusy)
	want(t, "2", l.Put(Batch{Id: 7, Rows: many(2)}), api.OK)
	want(t, "nothing", l.Put(Batch{Id: 9}), api.OK)
	if l.Len() != 3 || l.Rows() != 5 || len(l.Batches()) != 3 || len(l.Batches(9, 3, 4)) != 2 || l.Batches(9, 3)[0].Id != 3 || l.Batches(5) != nil {
		t.Error("those that wait")
	}
	l.Batches()[0].Rows[0][0] = value.Int(9)
	f, _ := l.First()
	f.Rows[0][0] = value.Int(9)
	if f, ok := l.First(); !ok || !Same(f, Batch{Id: 3, Rows: many(3)}) {
		t.Error("the first one", f)
	}
	if f, ok := l.Take(); !ok || !Same(f, Batch{Id: 3, Rows: many(3)}) || l.Len() != 2 || l.Rows() != 2 {
		t.Error("Take")
	}
	want(t, "below the last one", l.Put(Batch{Id: 8}), api.ErrArg)
	l.Take()
	l.Take()
	if f, ok := l.Take(); ok || !reflect.DeepEqual(f, Batch{}) {
		t.Error("none")
	}
	want(t, "any id, if none waits", l.Put(Batch{Id: 1, Rows: many(5)}), api.OK)
	var none *Line
	_, first := none.First()
	_, take := none.Take()
	if none.Put(Batch{Id: 1}) != api.ErrArg || first || take || none.Len() != 0 || none.Rows() != 0 || none.Batches() != nil {
		t.Error("nil")
	}
}

// P18.4
func TestBytes(t *testing.T) {
	if Bytes() != "\x00" || Bytes(Batch{Id: -5}) != "\x01\x01\x00\x00" || Bytes(Batch{Id: 2, Rows: many(1)}) != "\x01\x01\x01\x02"+new(codec.Writer).Rows(many(1)...).String() {
		t.Errorf("%q", Bytes(Batch{Id: 2}))
	}
	all := []Batch{{Id: 5, Rows: many(32)}, {Id: 1}, {Id: 5, Rows: many(2)}, {Id: math.MaxInt}}
	l, e := Read(Bytes(all...), cols)
	if e != api.OK || len(l) != 4 {
		t.Fatal(e)
	}
	for i := range l {
		if !Same(l[i], all[i]) {
			t.Error(l[i])
		}
	}
	if l, e := Read("\x00", cols); l != nil || e != api.OK {
		t.Error("none")
	}
	wide := make([]api.Column, 9)
	var nine []api.Value
	for i := range wide {
		wide[i].Kind = 1
		nine = append(nine, value.Int(1))
	}
	good := Bytes(all[2])
	for what, s := range map[string]string{"empty": "", "cut off": good[:len(good)-1], "more": good + "\x00", "id 0": Bytes(Batch{}), "33 rows": Bytes(Batch{Id: 1, Rows: many(33)}), "another kind": Bytes(Batch{Id: 1, Rows: [][]api.Value{{value.Int(1), value.Int(1)}}}), "too many": "\x08\x7f\xff\xff\xff\xff\xff\xff\xff"} {
		if l, e := Read(s, cols); l != nil || e != api.ErrForm {
			t.Error(what, l, e)
		}
	}
	if l, e := Read(Bytes(Batch{Id: 1, Rows: [][]api.Value{nine}}), wide); l != nil || e != api.ErrForm {
		t.Error("nine values", l, e)
	}
	if _, e := Read(Bytes(Batch{Id: 1, Rows: [][]api.Value{nine[1:]}}), wide[1:]); e != api.OK {
		t.Error("eight values", e)
	}
}
