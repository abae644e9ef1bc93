package schema_test

import (
	"math"
	"math/rand"
	"reflect"
	"strings"
	"testing"

	"afflux/api"
	. "afflux/schema"
	"afflux/value"
)

func plan() api.Schema {
	return api.Schema{
		Name:    "t",
		Cols:    []api.Column{{Name: "a", Kind: api.KInt}, {Name: "b", Kind: api.KText}, {Name: "c", Kind: api.KBool}},
		Indexes: []api.Index{{Cols: []int{0}, Unique: true}, {Cols: []int{1}}, {Cols: []int{2, 1}, Unique: true}},
		Limit:   10, Parts: 4, By: 1,
	}
}

func row(a int64, b string, c bool) []api.Value {
	return []api.Value{value.Int(a), value.Text(b), value.Bool(c)}
}

// P3.1
func TestNamed(t *testing.T) {
	if !Named() || !Named("a", "z9_", "abcdefghijklmnop", "za0z", "z") {
		t.Error("names")
	}
	for _, s := range []string{"", "A", "_a", "9", "aB", "a-b", "a b", "\xe4", "abcdefghijklmnopq", "a\x00"} {
		if Named(s) || Named("a", s) {
			t.Errorf("%q is no name", s)
		}
	}
}

// P3.1
func TestRight(t *testing.T) {
	if !Right(plan()) {
		t.Fatal("right")
	}
	nine := make([]api.Column, 9)
	for i := range nine {
		nine[i] = api.Column{Name: "c" + string(rune('a'+i)), Kind: 1}
	}
	changes := map[string]func(*api.Schema){
		"no name":         func(s *api.Schema) { s.Name = "" },
		"no columns":      func(s *api.Schema) { s.Cols = nil },
		"nine columns":    func(s *api.Schema) { s.Cols = nine },
		"same names":      func(s *api.Schema) { s.Cols[2].Name = "a" },
		"a column's name": func(s *api.Schema) { s.Cols[1].Name = "B" },
		"kind 0":          func(s *api.Schema) { s.Cols[1].Kind = 0 },
		"kind 4":          func(s *api.Schema) { s.Cols[1].Kind = 4 },
		"no index":        func(s *api.Schema) { s.Indexes = nil },
		"five indexes": func(s *api.Schema) {
			s.Indexes = append(s.Indexes, api.Index{Cols: []int{0, 1}}, api.Index{Cols: []int{1, 0}})
		},
		"first not unique":   func(s *api.Schema) { s.Indexes[0].Unique = false },
		"no places":          func(s *api.Schema) { s.Indexes[1].Cols = nil },
		"a place beyond":     func(s *api.Schema) { s.Indexes[1].Cols[0] = 3 },
		"a place below":      func(s *api.Schema) { s.Indexes[1].Cols[0] = -1 },
		"same places":        func(s *api.Schema) { s.Indexes[2].Cols = []int{1, 1} },
		"an index twice":     func(s *api.Schema) { s.Indexes[1].Cols = []int{0} },
		"limit 0":            func(s *api.Schema) { s.Limit = 0 },
		"limit 1001":         func(s *api.Schema) { s.Limit = 1001 },
		"parts 0":            func(s *api.Schema) { s.Parts = 0 },
		"parts 9":            func(s *api.Schema) { s.Parts = 9 },
		"by a place below":   func(s *api.Schema) { s.By = -1 },
		"by a place too far": func(s *api.Schema) { s.By = 3 },
	}
	for what, change := range changes {
		s := plan()
		change(&s)
		if Right(s) || Fits(s, row(1, "x", true)...) {
			t.Error(what)
		}
		if _, e := Key(s, 0, row(1, "x", true)...); e != api.ErrArg {
			t.Error(what, e)
		}
		if l, e := Keys(s); l != nil || e != api.ErrArg {
			t.Error(what, e)
		}
		if n, e := Part(s); n != 0 || e != api.ErrArg {
			t.Error(what, e)
		}
		if Same(s, plan()) || !Same(s, Copy(s)) {
			t.Error(what, "Same")
		}
	}
	s := plan()
	s.Indexes = append(s.Indexes, api.Index{Cols: []int{1, 2}})
	s.Limit, s.Parts, s.By = api.MaxRows, api.MaxParts, 2
	if !Right(s) {
		t.Error("the other order is another index")
	}
	s.Cols, s.Indexes = nine[:8], []api.Index{{Cols: []int{7, 6, 5, 4, 3, 2, 1, 0}, Unique: true}}
	if !Right(s) {
		t.Error("eight columns")
	}
	least := api.Schema{Name: "t", Cols: []api.Column{{Name: "a", Kind: 3}}, Indexes: []api.Index{{Cols: []int{0}, Unique: true}}, Limit: 1, Parts: 1}
	if !Right(least) || !Fits(least, value.Bool(true)) {
		t.Error("the least of all")
	}
}

// P3.1
func TestColSameCopyZero(t *testing.T) {
	s := plan()
	if Col(s, "b") != 1 || Col(s, "x") != -1 || Col(api.Schema{}, "") != -1 || Col(api.Schema{Cols: []api.Column{{Name: "q"}, {Name: "q"}}}, "q") != 0 {
		t.Error("Col")
	}
	c := Copy(s)
	c.Cols[0].Name, c.Indexes[1].Cols[0], c.Indexes[0].Unique = "z", 2, false
	if !Same(s, plan()) {
		t.Error("the copy shares memory")
	}
	if !Same(api.Schema{Cols: []api.Column{}, Indexes: []api.Index{{Cols: []int{}}}}, api.Schema{Indexes: []api.Index{{}}}) {
		t.Error("nil and empty lists are one")
	}
	wrong := api.Schema{Cols: append(plan().Cols, api.Column{Kind: 4}, api.Column{Kind: -1})}
	if !reflect.DeepEqual(Zero(wrong), append(row(0, "", false), api.Value{}, api.Value{})) || Zero(api.Schema{}) != nil {
		t.Error(Zero(wrong))
	}
}

// P3.2
func TestFitsPick(t *testing.T) {
	s, r := plan(), row(1, "x", true)
	if !Fits(s, r...) || !Fits(s, row(0, strings.Repeat("x", 200), false)...) {
		t.Error("fits")
	}
	for _, x := range [][]api.Value{nil, r[:2], append(row(1, "x", true), value.Int(1)), {r[1], r[0], r[2]}, row(0, strings.Repeat("x", 201), false), {r[0], r[1], {Kind: 3, N: 2}}} {
		if Fits(s, x...) {
			t.Errorf("%v fits", x)
		}
		if _, e := Key(s, 0, x...); e != api.ErrType {
			t.Errorf("%v: %d", x, e)
		}
		if _, e := Keys(s, x...); e != api.ErrType {
			t.Errorf("%v: %d", x, e)
		}
		if n, e := Part(s, x...); n != 0 || e != api.ErrType {
			t.Errorf("%v: %d", x, e)
		}
	}
	if !reflect.DeepEqual(Pick(r, 2, 0, 2), []api.Value{r[2], r[0], r[2]}) || Pick(r) != nil || Pick(r, 0, 3) != nil || Pick(r, -1) != nil || Pick(nil, math.MinInt) != nil {
		t.Error("Pick")
	}
}

// P3.3
func TestKeys(t *testing.T) {
	s, r := plan(), row(7, "x", true)
	k0, k1, k2 := value.Key(r[0]), value.Key(r[1], r[0]), value.Key(r[2], r[1])
	if l, e := Keys(s, r...); !reflect.DeepEqual(l, []string{k0, k1, k2}) || e != api.OK {
		t.Errorf("%q, %d", l, e)
	}
	for i, want := range []string{k0, k1, k2} {
		if k, e := Key(s, i, r...); k != want || e != api.OK {
			t.Errorf("%d: %q, %d", i, k, e)
		}
	}
	for _, i := range []int{-1, 3} {
		if k, e := Key(s, i); k != "" || e != api.ErrArg {
			t.Errorf("%d: %q, %d", i, k, e)
		}
	}
	if p, e := Part(s, r...); p != int('x')%4 || e != api.OK {
		t.Error(p, e)
	}
}

// P3.4
func TestOrderByIndex(t *testing.T) {
	s, r := plan(), rand.New(rand.NewSource(1))
	one := func() []api.Value { return row(r.Int63n(4)-2, string(rune('a'+r.Intn(2))), r.Intn(2) == 0) }
	for range 3000 {
		a, b := one(), one()
		for i, x := range s.Indexes {
			ka, _ := Key(s, i, a...)
			kb, _ := Key(s, i, b...)
			want := value.Rows(Pick(a, x.Cols...), Pick(b, x.Cols...))
			if want == 0 && !x.Unique {
				want = value.Rows(Pick(a, 0), Pick(b, 0))
			}
			if strings.Compare(ka, kb) != want {
				t.Fatalf("%d: %v, %v", i, a, b)
			}
		}
	}
}
