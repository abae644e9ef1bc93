package undo_test

import (
	"math/rand"
	"reflect"
	"testing"

	"afflux/api"
	"afflux/table"
	. "afflux/undo"
	"afflux/value"
)

func made(t *testing.T) *table.Table {
	t.Helper()
	x, e := table.New(api.Schema{
		Name: "t", Cols: []api.Column{{Name: "a", Kind: 1}, {Name: "b", Kind: 1}},
		Indexes: []api.Index{{Cols: []int{0}, Unique: true}, {Cols: []int{1}, Unique: true}}, Limit: 6, Parts: 1,
	})
	if e != api.OK {
		t.Fatal(e)
	}
	return x
}

func row(a, b int64) []api.Value { return []api.Value{value.Int(a), value.Int(b)} }
func key(a int64) string         { return value.Key(value.Int(a)) }

type note struct {
	n int
	l *[]int
	f func()
}

func (s note) Back() {
	*s.l = append(*s.l, s.n)
	if s.f != nil {
		s.f()
	}
}

// lost is a change whose Back panics, if there is none.
type lost struct{ n int }

func (s *lost) Back() { s.n++ }

// P10.1, P10.3
func TestJournal(t *testing.T) {
	var j Journal
	var l []int
	for i := range 5 {
		j.Note(note{i, &l, nil}, note{10 + i, &l, nil})
	}
	j.Note()
	if j.Mark() != 10 || j.Back(10) != 0 || j.Back(99) != 0 || j.Back(7) != 3 || j.Mark() != 7 || !reflect.DeepEqual(l, []int{14, 4, 13}) {
		t.Error(l)
	}
	j.Keep()
	if j.Mark() != 0 || j.Back(-5) != 0 || len(l) != 3 {
		t.Error("forgotten")
	}
	j.Note(note{1, &l, nil})
	if j.Back(-5) != 1 || j.Mark() != 0 || len(l) != 4 {
		t.Error("none below 0")
	}
	var none *Journal
	none.Note(note{1, &l, nil})
	none.Keep()
	if none.Mark() != 0 || none.Back(0) != 0 || len(l) != 4 {
		t.Error("nil")
	}
}

// P10.1, P10.3: changes whose Back misbehaves
func TestWrongSteps(t *testing.T) {
	var j Journal
	var l []int
	j.Note(note{1, &l, nil}, nil, note{2, &l, func() { panic("x") }}, note{3, &l, func() { j.Note(note{9, &l, nil}); j.Back(2) }}, (*lost)(nil))
	if j.Back(0) != 5 || !reflect.DeepEqual(l, []int{3, 2, 1}) || j.Mark() != 1 {
		t.Error(l, j.Mark())
	}
}

// P10.2
func TestTracked(t *testing.T) {
	var j Journal
	a, b := made(t), made(t)
	l := Track(&j, a, nil, b)
	if len(l) != 3 || Track(&j) != nil {
		t.Fatal("Track")
	}
	if l[0].Insert(row(1, 1)...) != api.OK || l[0].Insert(row(1, 2)...) != api.ErrTwice || l[2].Insert(row(1, 2)...) != api.OK || a.Len() != 1 || j.Mark() != 2 {
		t.Error("Insert")
	}
	if l[0].Update(key(1), row(2, 2)...) != api.OK || l[0].Update(key(1), row(2, 2)...) != api.ErrNone || l[0].Delete(key(1)) != api.ErrNone || j.Mark() != 3 {
		t.Error("Update")
	}
	if l[0].Delete(key(2)) != api.OK || l[0].Len() != 0 || j.Mark() != 4 {
		t.Error("Delete")
	}
	l[0].Insert(row(4, 1)...)
	l[0].Insert(row(3, 2)...)
	m := j.Mark()
	if l[0].Clear() != api.OK || a.Len() != 0 || j.Mark() != m+2 || l[0].Clear() != api.OK {
		t.Error("Clear")
	}
	if j.Back(m+1) != 1 || !reflect.DeepEqual(a.Rows(), [][]api.Value{row(4, 1)}) {
		t.Error("in the order of their keys", a.Rows())
	}
	if j.Back(1); a.Len() != 1 || b.Len() != 0 || !reflect.DeepEqual(l[0].Rows(), [][]api.Value{row(1, 1)}) {
		t.Error("Back")
	}
	var none *Table
	for _, x := range []*Table{none, l[1]} {
		for _, e := range []api.Errno{x.Insert(row(1, 1)...), x.Update("", row(1, 1)...), x.Delete(""), x.Clear()} {
			if e != api.ErrArg {
				t.Error("nil", e)
			}
		}
	}
	if l[1].Len() != 0 || l[1].Bytes() != "\x00" || j.Mark() != 1 {
		t.Error("a tracked nil table")
	}
	free := Track(nil, a)[0]
	if free.Insert(row(5, 5)...) != api.OK || free.Delete(key(5)) != api.OK {
		t.Error("without a journal")
	}
}

// P10.4
func TestBackToMarks(t *testing.T) {
	r := rand.New(rand.NewSource(7))
	for range 300 {
		var j Journal
		a, b := made(t), made(t)
		l := Track(&j, a, b)
		marks, was := []int{}, []string{}
		for range 60 {
			x := l[r.Intn(2)]
			n := row(r.Int63n(8), r.Int63n(8))
			switch r.Intn(7) {
			case 0, 1:
				x.Insert(n...)
			case 2, 3:
				x.Update(key(r.Int63n(8)), n...)
			case 4:
				x.Delete(key(r.Int63n(8)))
			case 5:
				if r.Intn(4) == 0 {
					x.Clear()
				}
			default:
				marks, was = append(marks, j.Mark()), append(was, a.Bytes()+b.Bytes())
			}
		}
		for i := len(marks) - 1; i >= 0; i -= 1 + r.Intn(3) {
			if j.Back(marks[i]); a.Bytes()+b.Bytes() != was[i] || j.Mark() != marks[i] {
				t.Fatal("they are not as they were")
			}
		}
	}
}
