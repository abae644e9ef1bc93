package tree_test

import (
	"fmt"
	"math/rand"
	"reflect"
	"slices"
	"testing"

	. "afflux/tree"
)

// P8.1 to P8.3 of an empty tree, and of none
func TestEmpty(t *testing.T) {
	for _, x := range []*Tree[int]{nil, New[int]()} {
		if v, ok := x.Get(""); v != 0 || ok {
			t.Error("Get")
		}
		if v, ok := x.Delete(""); v != 0 || ok {
			t.Error("Delete")
		}
		if k, v, ok := x.Next("", true); k != "" || v != 0 || ok {
			t.Error("Next")
		}
		if k, v, ok := x.Ahead("z", true); k != "" || v != 0 || ok {
			t.Error("Ahead")
		}
		if k, v, ok := x.Last(); k != "" || v != 0 || ok {
			t.Error("Last")
		}
		if x.Len() != 0 || x.Keys("", "", 9) != nil || x.Count("", "") != 0 || x.Depth() != 0 || x.Pages() != nil {
			t.Error("the rest")
		}
	}
	var none *Tree[int]
	if v, ok := none.Put("a", 1); v != 0 || ok || none.Len() != 0 {
		t.Error("it takes nothing")
	}
}

// P8.1, P8.3
func TestExample(t *testing.T) {
	x := New[string]()
	for _, k := range []string{"a", "b", "c", "d", "e", "f"} {
		if v, ok := x.Put(k, k+"1"); v != "" || ok {
			t.Error(k)
		}
	}
	if !reflect.DeepEqual(x.Pages(), [][]string{{"c"}, {"a", "b"}, {"d", "e", "f"}}) || x.Depth() != 2 {
		t.Error(x.Pages())
	}
	if v, ok := x.Put("c", "c2"); v != "c1" || !ok || x.Len() != 6 {
		t.Error("what it had")
	}
	if v, ok := x.Get("c"); v != "c2" || !ok {
		t.Error("what it has")
	}
	x.Pages()[0][0] = "z"
	if v, ok := x.Delete("c"); v != "c2" || !ok || x.Len() != 5 {
		t.Error("deleted")
	}
	if v, ok := x.Delete("c"); v != "" || ok {
		t.Error("deleted twice")
	}
}

// check holds the pages against what they must be.
func check(t *testing.T, x *Tree[int]) {
	t.Helper()
	l := x.Pages()
	depth := x.Depth()
	var walk func(deep int, low, high string, lowest, highest bool) []string
	walk = func(deep int, low, high string, lowest, highest bool) []string {
		keys := l[0]
		l = l[1:]
		least := 2
		if deep == 1 {
			least = 1
		}
		if len(keys) < least || len(keys) > 5 || !slices.IsSorted(keys) {
			t.Fatalf("a page of %q", keys)
		}
		if !lowest && keys[0] <= low || !highest && keys[len(keys)-1] >= high {
			t.Fatalf("%q doesn't lie between %q and %q", keys, low, high)
		}
		if deep == depth {
			return keys
		}
		var all []string
		for i := range len(keys) + 1 {
			a, b := low, high
			if i > 0 {
				a = keys[i-1]
			}
			if i < len(keys) {
				b = keys[i]
			}
			all = append(all, walk(deep+1, a, b, lowest && i == 0, highest && i == len(keys))...)
			if i < len(keys) {
				all = append(all, keys[i])
			}
		}
		return all
	}
	if len(l) > 0 {
		if all := walk(1, "", "", true, true); !slices.Equal(all, x.Keys("", "", x.Len()+1)) || len(all) != x.Len() {
			t.Fatal("the pages have other keys")
		}
	}
	if len(l) != 0 {
		t.Fatal("pages behind all")
	}
}

// P8.1 to P8.3, held against a map
func TestAgainstMap(t *testing.T) {
	r := rand.New(rand.NewSource(5))
	for round := range 60 {
		x, m := New[int](), map[string]int{}
		space := 1 + r.Intn(300)
		grow := 2 + r.Intn(7)
		for step := range 800 {
			if step%200 == 199 {
				grow = 10 - grow
			}
			k := ""
			if n := r.Intn(space); n > 0 {
				k = fmt.Sprint(n)
			}
			had, there := m[k]
			var v int
			var ok bool
			if r.Intn(10) < grow {
				v, ok = x.Put(k, step)
				m[k] = step
			} else {
				v, ok = x.Delete(k)
				delete(m, k)
			}
			if v != had || ok != there || x.Len() != len(m) {
				t.Fatalf("%q: %d, %v", k, v, ok)
			}
			if step%7 == 0 || round < 5 {
				check(t, x)
				ask(t, r, x, m, space)
			}
		}
		for k := range m {
			x.Delete(k)
			check(t, x)
		}
		if x.Len() != 0 || x.Pages() != nil {
			t.Fatal("it isn't empty")
		}
	}
}

func ask(t *testing.T, r *rand.Rand, x *Tree[int], m map[string]int, space int) {
	t.Helper()
	var sorted []string
	for k := range m {
		sorted = append(sorted, k)
	}
	slices.Sort(sorted)
	from, to, with := fmt.Sprint(r.Intn(space)), fmt.Sprint(r.Intn(space)), r.Intn(2) == 0
	if r.Intn(5) == 0 {
		to = ""
	}
	var next, ahead string
	var hasNext, hasAhead bool
	var between []string
	for _, k := range sorted {
		if (k > from || with && k == from) && !hasNext {
			next, hasNext = k, true
		}
		if k < from || with && k == from {
			ahead, hasAhead = k, true
		}
		if k >= from && (to == "" || k < to) {
			between = append(between, k)
		}
	}
	if k, v, ok := x.Next(from, with); k != next || v != m[next]*one(hasNext) || ok != hasNext {
		t.Fatalf("Next: %q, not %q", k, next)
	}
	if k, v, ok := x.Ahead(from, with); k != ahead || v != m[ahead]*one(hasAhead) || ok != hasAhead {
		t.Fatalf("Ahead: %q, not %q", k, ahead)
	}
	if k, _, ok := x.Last(); ok != (len(m) > 0) || ok && k != sorted[len(sorted)-1] {
		t.Fatalf("Last: %q", k)
	}
	most := r.Intn(5) - 1
	if l := x.Keys(from, to, most); !slices.Equal(l, between[:max(0, min(most, len(between)))]) {
		t.Fatalf("Keys(%q, %q, %d): %q", from, to, most, l)
	}
	if l := x.Keys(from, to, 1000); !slices.Equal(l, between) || x.Count(from, to) != len(between) {
		t.Fatalf("Keys(%q, %q): %q", from, to, l)
	}
	if v, ok := x.Get(from); ok != slices.Contains(sorted, from) || v != m[from] {
		t.Fatalf("Get(%q)", from)
	}
}

func one(b bool) int {
	if b {
		return 1
	}
	return 0
}
