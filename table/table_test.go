package table_test

import (
	"math/rand"
	"reflect"
	"slices"
	"strings"
	"testing"

	"afflux/api"
	"afflux/codec"
	"afflux/schema"
	. "afflux/table"
	"afflux/value"
)

func plain() api.Schema {
	return api.Schema{
		Name:    "t",
		Cols:    []api.Column{{Name: "a", Kind: api.KInt}, {Name: "b", Kind: api.KText}, {Name: "c", Kind: api.KInt}},
		Indexes: []api.Index{{Cols: []int{0}, Unique: true}, {Cols: []int{1}, Unique: true}, {Cols: []int{2}}},
		Limit:   5, Parts: 3, By: 2,
	}
}

func row(a int64, b string, c int64) []api.Value {
	return []api.Value{value.Int(a), value.Text(b), value.Int(c)}
}

func made(t *testing.T) *Table {
	t.Helper()
	x, e := New(plain())
	if e != api.OK {
		t.Fatal(e)
	}
	return x
}

func want(t *testing.T, what string, have, e api.Errno) {
	t.Helper()
	if have != e {
		t.Errorf("%s: %d, not %d", what, have, e)
	}
}

func key(a int64) string { return value.Key(value.Int(a)) }

// P9.1
func TestNew(t *testing.T) {
	if x, e := New(api.Schema{}); x != nil || e != api.ErrArg {
		t.Error("a schema that isn't right")
	}
	s := plain()
	x, _ := New(s)
	s.Cols[0].Name = "z"
	x.Schema().Cols[0].Name = "y"
	if !schema.Same(x.Schema(), plain()) || x.Len() != 0 {
		t.Error("the schema is its own")
	}
	if k, e := x.Key(row(3, "x", 0)...); k != key(3) || e != api.OK {
		t.Error("Key")
	}
	if k, e := x.Key(value.Int(1)); k != "" || e != api.ErrType {
		t.Error("a row that doesn't fit")
	}
	if r, ok := x.Get(key(3)); r != nil || ok {
		t.Error("Get")
	}
	r := row(3, "x", 0)
	x.Insert(r...)
	r[0] = value.Int(9)
	got, ok := x.Get(key(3))
	got[1] = value.Text("spoilt")
	if got, _ := x.Get(key(3)); !ok || !reflect.DeepEqual(got, row(3, "x", 0)) {
		t.Error("rows are its own", got)
	}
}

// P9.2
func TestChanges(t *testing.T) {
	x := made(t)
	want(t, "Insert", x.Insert(row(1, "x", 7)...), api.OK)
	want(t, "type", x.Insert(row(1, "x", 7)[:2]...), api.ErrType)
	want(t, "the key twice", x.Insert(row(1, "y", 0)...), api.ErrTwice)
	want(t, "another unique key twice", x.Insert(row(2, "x", 0)...), api.ErrTwice)
	want(t, "a key that isn't unique", x.Insert(row(2, "y", 7)...), api.OK)
	for i := range int64(3) {
		want(t, "more", x.Insert(row(10+i, string(rune('p'+i)), 7)...), api.OK)
	}
	want(t, "twice, ahead of the limit", x.Insert(row(1, "zz", 0)...), api.ErrTwice)
	want(t, "the limit", x.Insert(row(99, "zz", 0)...), api.ErrLimit)
	want(t, "none, ahead of type", x.Update(key(99)), api.ErrNone)
	want(t, "type", x.Update(key(1), value.Int(1)), api.ErrType)
	want(t, "another row's key", x.Update(key(1), row(2, "q2", 0)...), api.ErrTwice)
	want(t, "another row's other key", x.Update(key(1), row(1, "y", 0)...), api.ErrTwice)
	want(t, "its own keys", x.Update(key(1), row(1, "x", 8)...), api.OK)
	want(t, "another key", x.Update(key(1), row(5, "x", 8)...), api.OK)
	if _, ok := x.Get(key(1)); ok || x.Len() != 5 {
		t.Error("the old key is no more")
	}
	want(t, "none", x.Delete(key(1)), api.ErrNone)
	want(t, "Delete", x.Delete(key(5)), api.OK)
	want(t, "its other key is free", x.Insert(row(6, "x", 8)...), api.OK)
}

// P9.3
func TestScans(t *testing.T) {
	x := made(t)
	a, b, c, d := row(1, "d", 4), row(2, "c", 3), row(3, "b", 4), row(4, "a", 2)
	x.Load(c, a, d, b)
	all := func(l ...[]api.Value) [][]api.Value { return l }
	for _, s := range []struct {
		i, most  int
		from, to string
		want     [][]api.Value
	}{
		{0, 9, "", "", all(a, b, c, d)}, {1, 9, "", "", all(d, c, b, a)}, {2, 9, "", "", all(d, b, a, c)}, {0, 2, "", "", all(a, b)}, {0, 0, "", "", nil}, {0, -1, "", "", nil},
		{0, 9, key(2), key(4), all(b, c)}, {0, 9, key(3), "", all(c, d)}, {2, 9, key(4), key(5), all(a, c)}, {3, 9, "", "", nil}, {-1, 9, "", "", nil}, {0, 9, key(4), key(2), nil},
	} {
		if got := x.Scan(s.i, s.from, s.to, s.most); !reflect.DeepEqual(got, s.want) {
			t.Errorf("%v: %v", s, got)
		}
	}
	if k, r, ok := x.First(2); k != key(2)+key(4) || !reflect.DeepEqual(r, d) || !ok {
		t.Error("First", r)
	}
	if k, r, ok := x.First(0, 0); k != key(2) || !reflect.DeepEqual(r, b) || !ok {
		t.Error("First of a partition", r)
	}
	if k, r, ok := x.Next(0, key(1), 1); k != key(3) || !reflect.DeepEqual(r, c) || !ok {
		t.Error("Next of a partition", r)
	}
	if k, r, ok := x.Next(1, "", 2, 0); k != value.Key(value.Text("a")) || !reflect.DeepEqual(r, d) || !ok {
		t.Error("Next of two partitions", r)
	}
	for _, bad := range []func() (string, []api.Value, bool){
		func() (string, []api.Value, bool) { return x.Next(0, key(4)) }, func() (string, []api.Value, bool) { return x.Next(0, key(2), 0) },
		func() (string, []api.Value, bool) { return x.First(3) }, func() (string, []api.Value, bool) { return x.First(0, 3, -1) },
	} {
		if k, r, ok := bad(); k != "" || r != nil || ok {
			t.Error("there is none", r)
		}
	}
	spoilt := [][]api.Value{x.Scan(0, "", "", 1)[0], x.Rows()[1]}
	_, r, _ := x.Next(0, key(2))
	_, f, _ := x.First(0)
	for _, r := range append(spoilt, r, f) {
		r[2] = value.Int(77)
	}
	if !reflect.DeepEqual(x.Rows(), all(a, b, c, d)) || !reflect.DeepEqual(x.Rows(1, 2, 1), all(a, c, d)) || x.Rows(5) != nil || x.In() != 4 || x.In(1) != 2 || x.In(0, 1) != 3 || x.In(-1) != 0 {
		t.Error("Rows, In")
	}
}

// P9.4
func TestLoadBytes(t *testing.T) {
	x := made(t)
	a, b := row(1, "d", 4), row(2, "c", 3)
	want(t, "Load", x.Load(b, a), api.OK)
	if x.Bytes() != new(codec.Writer).Rows(a, b).String() {
		t.Error("Bytes")
	}
	want(t, "Load instead", x.Load(a), api.OK)
	if x.Len() != 1 {
		t.Error("Load")
	}
	want(t, "the first error", x.Load(b, b, nil), api.ErrTwice)
	if x.Len() != 0 || x.Bytes() != "\x00" {
		t.Error("without rows")
	}
	want(t, "too many", x.Load(row(1, "1", 0), row(2, "2", 0), row(3, "3", 0), row(4, "4", 0), row(5, "5", 0), row(6, "6", 0)), api.ErrLimit)
	want(t, "nothing", x.Load(), api.OK)
}

// P9.4 of a nil table
func TestNil(t *testing.T) {
	var x *Table
	k, e := x.Key()
	r, ok := x.Get("")
	k2, r2, ok2 := x.First(0)
	k3, r3, ok3 := x.Next(0, "", 1)
	if !schema.Same(x.Schema(), api.Schema{}) || x.Len() != 0 || k != "" || e != api.ErrArg || r != nil || ok || k2 != "" || r2 != nil || ok2 || k3 != "" || r3 != nil || ok3 {
		t.Error("nil")
	}
	if x.Scan(0, "", "", 9) != nil || x.Rows() != nil || x.In() != 0 || x.Bytes() != "\x00" {
		t.Error("nil")
	}
	for _, e := range []api.Errno{x.Insert(), x.Update(""), x.Delete(""), x.Load()} {
		want(t, "nil", e, api.ErrArg)
	}
}

// P9.2, P9.5, held against a list
func TestAgainstList(t *testing.T) {
	r := rand.New(rand.NewSource(6))
	for range 100 {
		x := made(t)
		var l [][]api.Value
		for range 100 {
			n := row(r.Int63n(8), string(rune('a'+r.Intn(8))), r.Int63n(4))
			old := key(r.Int63n(8))
			at := slices.IndexFunc(l, func(o []api.Value) bool { return value.Key(o[0]) == old })
			var e, w api.Errno
			clash := func(but int) bool {
				for i, o := range l {
					if i != but && (o[0] == n[0] || o[1] == n[1]) {
						return true
					}
				}
				return false
			}
			switch r.Intn(3) {
			case 0:
				e = x.Insert(n...)
				if clash(-1) {
					w = api.ErrTwice
				} else if len(l) == 5 {
					w = api.ErrLimit
				} else {
					l = append(l, n)
				}
			case 1:
				e = x.Update(old, n...)
				if at < 0 {
					w = api.ErrNone
				} else if clash(at) {
					w = api.ErrTwice
				} else {
					l[at] = n
				}
			default:
				e = x.Delete(old)
				if at < 0 {
					w = api.ErrNone
				} else {
					l = slices.Delete(l, at, at+1)
				}
			}
			want(t, "a change", e, w)
			for i := range 3 {
				slices.SortFunc(l, func(a, b []api.Value) int {
					ka, _ := schema.Key(plain(), i, a...)
					kb, _ := schema.Key(plain(), i, b...)
					return strings.Compare(ka, kb)
				})
				if got := x.Scan(i, "", "", 99); len(got) != len(l) || len(l) > 0 && !reflect.DeepEqual(got, l) {
					t.Fatalf("index %d: %v, not %v", i, got, l)
				}
			}
		}
	}
}
