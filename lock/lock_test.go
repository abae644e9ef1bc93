package lock_test

import (
	"math/rand"
	"reflect"
	"slices"
	"testing"

	"afflux/api"
	. "afflux/lock"
)

func r(names ...string) []Want { return all(false, names) }
func w(names ...string) []Want { return all(true, names) }

func all(write bool, names []string) []Want {
	var l []Want
	for _, n := range names {
		l = append(l, Want{n, write})
	}
	return l
}

func want(t *testing.T, what string, have, e api.Errno) {
	t.Helper()
	if have != e {
		t.Errorf("%s: %d, not %d", what, have, e)
	}
}

func ids(t *testing.T, what string, have []int, l ...int) {
	t.Helper()
	if !reflect.DeepEqual(have, l) {
		t.Errorf("%s: %v, not %v", what, have, l)
	}
}

// P22.1
func TestClashUnion(t *testing.T) {
	for _, a := range []bool{false, true} {
		for _, b := range []bool{false, true} {
			if Clash(Want{"x", a}, Want{"x", b}) != (a || b) || Clash(Want{"x", a}, Want{"y", b}) {
				t.Error(a, b)
			}
		}
	}
	in := w("c", "a")
	if got := Union(r("b", "a"), nil, in, r("c", "c", "")); !reflect.DeepEqual(got, []Want{{"", false}, {"a", true}, {"b", false}, {"c", true}}) || !reflect.DeepEqual(in, w("c", "a")) {
		t.Error(got)
	}
	if got := Union(r("a", "a"), w("a")); !reflect.DeepEqual(got, w("a")) {
		t.Error(got)
	}
	if Union() != nil || Union(nil, nil) != nil {
		t.Error("of none")
	}
}

// P22.2
func TestTable(t *testing.T) {
	x := New()
	want(t, "below 0", x.Ask(-1, r("a")...), api.ErrArg)
	want(t, "1", x.Ask(1, r("a")...), api.OK)
	want(t, "twice", x.Ask(1), api.ErrTwice)
	if !reflect.DeepEqual(x.Wants(1), r("a")) {
		t.Error(x.Wants(1))
	}
	want(t, "2", x.Ask(2, w("a")...), api.OK)
	want(t, "3", x.Ask(3, r("a")...), api.OK)
	want(t, "twice", x.Ask(2), api.ErrTwice)
	ids(t, "1 is ready alone; 3 waits behind 2", x.Ready(), 1)
	ids(t, "Waiting", x.Waiting(), 1, 2, 3)
	want(t, "none", x.Grant(9), api.ErrNone)
	want(t, "busy", x.Grant(2), api.ErrBusy)
	want(t, "those ahead hold", x.Grant(1, 3, 2), api.ErrBusy)
	ids(t, "Holding", x.Holding(), 1)
	want(t, "it holds already", x.Grant(1), api.ErrNone)
	ids(t, "none is ready", x.Ready())
	want(t, "those ahead are no more", x.Free(2, 9, 1), api.ErrNone)
	ids(t, "3 reads beside 1", x.Ready(), 3)
	want(t, "0", x.Ask(0, append(r("b", "a"), w("b")...)...), api.OK)
	want(t, "4, that wants nothing", x.Ask(4), api.OK)
	ids(t, "in the order in which they were asked", x.Ready(), 3, 0, 4)
	want(t, "all", x.Grant(3, 0, 4), api.OK)
	ids(t, "rising", x.Holding(), 0, 1, 3, 4)
	if l := x.Wants(0); !reflect.DeepEqual(l, []Want{{"a", false}, {"b", true}}) || x.Wants(4) != nil || x.Wants(7) != nil {
		t.Error(l)
	}
	x.Wants(0)[0].Write = true
	want(t, "5", x.Ask(5, r("a")...), api.OK)
	ids(t, "wants are its own", x.Ready(), 5)
	want(t, "Free", x.Free(5, 0, 1, 3, 4), api.OK)
	want(t, "an id that was freed", x.Ask(1, w("a")...), api.OK)
	want(t, "none", x.Grant(), api.OK)
	want(t, "none", x.Free(), api.OK)
	var none *Table
	if none.Ask(1) != api.ErrArg || none.Grant() != api.ErrArg || none.Free() != api.ErrArg || none.Ready() != nil || none.Waiting() != nil || none.Holding() != nil || none.Wants(1) != nil {
		t.Error("nil")
	}
}

// P22.2, P22.3, held against the words
func TestAgainstWords(t *testing.T) {
	rnd := rand.New(rand.NewSource(12))
	type one struct {
		id    int
		l     []Want
		holds bool
	}
	clash := func(a, b []Want) bool {
		return slices.ContainsFunc(a, func(x Want) bool { return slices.ContainsFunc(b, func(y Want) bool { return Clash(x, y) }) })
	}
	for range 300 {
		x := New()
		var l []*one
		for id := range 25 {
			var wants []Want
			for range rnd.Intn(4) {
				wants = append(wants, Want{string(rune('a' + rnd.Intn(5))), rnd.Intn(2) == 0})
			}
			x.Ask(id, wants...)
			l = append(l, &one{id: id, l: wants})
			var ready []int
			for i, a := range l {
				ok := !a.holds
				for j, b := range l {
					if (b.holds || j < i) && i != j && clash(a.l, b.l) {
						ok = false
					}
				}
				if ok {
					ready = append(ready, a.id)
				}
			}
			ids(t, "Ready", x.Ready(), ready...)
			if len(x.Waiting()) > 0 && len(x.Holding()) == 0 && (len(ready) == 0 || ready[0] != x.Waiting()[0]) {
				t.Fatal("the first one is ready")
			}
			for range rnd.Intn(3) {
				a := l[rnd.Intn(len(l))]
				e := x.Grant(a.id)
				switch {
				case a.holds:
					want(t, "holds", e, api.ErrNone)
				case slices.Contains(ready, a.id):
					want(t, "ready", e, api.OK)
					a.holds = true
				default:
					want(t, "not ready", e, api.ErrBusy)
				}
				ready = x.Ready()
			}
			for i, a := range l {
				for _, b := range l[:i] {
					if a.holds && b.holds && clash(a.l, b.l) {
						t.Fatal("two that hold clash")
					}
				}
			}
			if i := rnd.Intn(len(l)); rnd.Intn(2) == 0 {
				want(t, "Free", x.Free(l[i].id), api.OK)
				l = slices.Delete(l, i, i+1)
			}
		}
	}
}
