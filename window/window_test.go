package window_test

import (
	"math/rand"
	"reflect"
	"testing"

	"afflux/api"
	"afflux/codec"
	"afflux/stream"
	"afflux/undo"
	"afflux/value"
	. "afflux/window"
)

var cols = []api.Column{{Name: "a", Kind: 1}}

func plain(size, slide int, batches bool) api.Window {
	return api.Window{Name: "w", On: "s", Owner: "p", Size: size, Slide: slide, Batches: batches}
}

func rows(l ...int64) [][]api.Value {
	var all [][]api.Value
	for _, n := range l {
		all = append(all, []api.Value{value.Int(n)})
	}
	return all
}

func batch(l ...int64) stream.Batch { return stream.Batch{Rows: rows(l...)} }

// P19.1
func TestRight(t *testing.T) {
	if !Right(plain(1, 1, true)) || !Right(plain(100, 100, false)) {
		t.Error("right")
	}
	for what, w := range map[string]api.Window{"size 0": plain(0, 0, true), "size 101": plain(101, 1, true), "slide 0": plain(5, 0, true), "slide 6": plain(5, 6, true), "name": {On: "s", Owner: "p", Size: 1, Slide: 1}, "on": {Name: "w", On: "S", Owner: "p", Size: 1, Slide: 1}, "owner": {Name: "w", On: "s", Size: 1, Slide: 1}} {
		if x, e := New(w, cols); Right(w) || x != nil || e != api.ErrArg {
			t.Error(what)
		}
	}
}

// P19.1
func TestPut(t *testing.T) {
	w, e := New(plain(3, 2, false), cols)
	if e != api.OK || w.Rows() != nil || w.Seen() != 0 || w.Staged() != 0 {
		t.Fatal("a window to which nothing came")
	}
	var j undo.Journal
	in := batch(1, 2, 3)
	if n, e := w.Put(&j, in, batch(), batch(4, 5)); n != 2 || e != api.OK || j.Mark() != 1 {
		t.Error(n, e, j.Mark())
	}
	in.Rows[1][0] = value.Int(9)
	own := []api.Column{{Name: "a", Kind: 1}}
	x, _ := New(plain(1, 1, false), own)
	own[0].Kind = 2
	if _, e := x.Put(nil, batch(1)); e != api.OK {
		t.Error("the columns are its own", e)
	}
	w.Rows()[0][0] = value.Int(9)
	if !reflect.DeepEqual(w.Rows(), rows(2, 3, 4)) || w.Seen() != 3 || w.Staged() != 1 {
		t.Error(w.Rows())
	}
	bad := stream.Batch{Rows: [][]api.Value{{value.Text("x")}}}
	if n, e := w.Put(&j, batch(6), bad); n != 0 || e != api.ErrType || w.Staged() != 1 || j.Mark() != 1 {
		t.Error("nothing came")
	}
	if n, _ := w.Put(&j, batch(6, 7, 8)); n != 2 || w.Staged() != 0 || !reflect.DeepEqual(w.Rows(), rows(6, 7, 8)) {
		t.Error("on", w.Rows())
	}
	if j.Back(1); !reflect.DeepEqual(w.Rows(), rows(2, 3, 4)) || w.Staged() != 1 {
		t.Error("taken back", w.Rows())
	}
	if j.Back(0); w.Seen() != 0 || w.Staged() != 0 {
		t.Error("all taken back")
	}
	if n, e := w.Put(nil, batch(1, 2)); n != 1 || e != api.OK {
		t.Error("without a journal")
	}
	if n, e := w.Put(&j); n != 0 || e != api.OK || w.Seen() != 2 {
		t.Error("nothing")
	}
}

// P19.1
func TestBatches(t *testing.T) {
	w, _ := New(plain(2, 1, true), cols)
	if n, _ := w.Put(nil, batch(1, 2), batch(), batch(3)); n != 3 || w.Seen() != 2 || !reflect.DeepEqual(w.Rows(), rows(3)) {
		t.Error("one without rows is a unit, too", w.Rows())
	}
}

// P19.2
func TestBytes(t *testing.T) {
	w, _ := New(plain(3, 2, false), cols)
	if w.Bytes() != "\x00\x00" {
		t.Error("nothing")
	}
	w.Put(nil, batch(1, 2, 3))
	want := new(codec.Writer).Size(2).Rows(rows(1)...).Rows(rows(2)...).Size(1).Rows(rows(3)...).String()
	if w.Bytes() != want {
		t.Errorf("%q", w.Bytes())
	}
	x, _ := New(plain(3, 2, false), cols)
	if e := x.Load(want); e != api.OK || x.Bytes() != want || x.Seen() != 2 || x.Staged() != 1 {
		t.Error(e)
	}
	laid := func(seen, staged int, u [][]api.Value) string {
		b := new(codec.Writer).Size(seen)
		for range seen {
			b.Rows(u...)
		}
		b.Size(staged)
		for range staged {
			b.Rows(u...)
		}
		return b.String()
	}
	one := rows(7)
	for what, s := range map[string]string{"empty": "", "cut off": want[:len(want)-1], "more": want + "\x00", "4 seen": laid(4, 0, one), "2 staged": laid(1, 2, one), "two rows": laid(1, 0, rows(1, 2)), "no row": laid(1, 0, nil), "another kind": laid(1, 0, [][]api.Value{{value.Bool(true)}})} {
		if e := x.Load(s); e != api.ErrForm || x.Bytes() != want {
			t.Error(what, e)
		}
	}
	if e := x.Load(laid(3, 1, one)); e != api.OK || x.Seen() != 3 {
		t.Error("all that may be")
	}
	b, _ := New(plain(3, 1, true), cols)
	many := make([]int64, 32)
	for what, c := range map[string]struct {
		s string
		e api.Errno
	}{"no rows": {laid(2, 0, nil), api.OK}, "32 rows": {laid(2, 0, rows(many...)), api.OK}, "33 rows": {laid(2, 0, rows(append(many, 1)...)), api.ErrForm}, "1 staged": {laid(2, 1, nil), api.ErrForm}} {
		if e := b.Load(c.s); e != c.e {
			t.Error(what, e)
		}
	}
	var none *Window
	n, e := none.Put(nil)
	if n != 0 || e != api.ErrArg || none.Rows() != nil || none.Seen() != 0 || none.Staged() != 0 || none.Bytes() != "" || none.Load("\x00\x00") != api.ErrArg {
		t.Error("nil")
	}
}

// P19.3
func TestLastSize(t *testing.T) {
	r := rand.New(rand.NewSource(10))
	for range 300 {
		size := 1 + r.Intn(8)
		slide := 1 + r.Intn(size)
		w, _ := New(plain(size, slide, r.Intn(2) == 0), cols)
		var all []int64 // of batches: one row each
		slides := 0
		for range 40 {
			var l []stream.Batch
			for range r.Intn(4) {
				all = append(all, int64(len(all)))
				l = append(l, batch(all[len(all)-1]))
			}
			var j undo.Journal
			if r.Intn(3) == 0 {
				before := w.Bytes()
				w.Put(&j, batch(77), batch(78))
				if j.Back(0); w.Bytes() != before {
					t.Fatal("not as ahead")
				}
			}
			n, _ := w.Put(&j, l...)
			slides += n
			k := len(all) / slide
			seen := rows(all[max(k*slide-size, 0) : k*slide]...)
			if slides != k || !reflect.DeepEqual(w.Rows(), seen) || w.Seen() != len(seen) || w.Staged() != len(all)-k*slide {
				t.Fatal(w.Rows(), seen)
			}
			again, _ := New(w.Window, cols)
			if again.Load(w.Bytes()) != api.OK || again.Bytes() != w.Bytes() {
				t.Fatal("there and back")
			}
		}
	}
}
