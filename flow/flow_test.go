package flow_test

import (
	"fmt"
	"math/rand"
	"reflect"
	"slices"
	"strings"
	"testing"

	"afflux/api"
	. "afflux/flow"
)

// proc is a procedure that consumes a stream (or none), and emits into some.
func proc(name, from string, emits ...string) api.Proc {
	p := api.Proc{Name: name, From: from, Fuel: 1}
	for _, s := range emits {
		p.Body = append(p.Body, api.Stmt{Op: api.SEmit, Src: s, Exprs: []api.Expr{{Op: api.XInt}}})
	}
	return p
}

func catalog(streams string, l ...api.Proc) api.Catalog {
	c := api.Catalog{Procs: l}
	for _, s := range strings.Fields(streams) {
		c.Streams = append(c.Streams, api.Stream{Name: s})
	}
	return c
}

func is(t *testing.T, what string, l []string, want string) {
	t.Helper()
	if strings.Join(l, " ") != want || want == "" && l != nil {
		t.Errorf("%s: %q, not %q", what, l, want)
	}
}

func example() api.Catalog {
	return catalog("in1 mid in2 end in1", proc("b", "mid", "end", "out"), proc("a", "in1", "mid"), proc("c", "mid"), proc("d", "end"), proc("e", "in2", "mid"), proc("call", "", "end"), proc("a", "", "in2"), proc("lone", "nowhere"), proc("bad", "in1", "UP", "mid"))
}

// P20.1
func TestWho(t *testing.T) {
	c := example()
	is(t, "Borders", Borders(c), "in1 in2")
	is(t, "Consumers", Consumers(c, "mid"), "b c")
	is(t, "Consumers", Consumers(c, "end", "in1", "x"), "a bad d")
	is(t, "Consumers of nothing", Consumers(c, ""), "")
	is(t, "Consumers of none", Consumers(c), "")
	is(t, "Emitters", Emitters(c, "mid"), "a e")
	is(t, "Emitters", Emitters(c, "end", "out", "mid"), "a b call e")
	is(t, "the second of a name", Emitters(c, "in2"), "")
	is(t, "Emitters of none", Emitters(c), "")
	if Round(c) || Round(api.Catalog{}) || !Round(catalog("s", proc("a", "s", "s"))) || !Round(catalog("", proc("a", "x", "y"), proc("b", "y", "z"), proc("c", "z", "x"), proc("d", ""))) {
		t.Error("Round")
	}
	is(t, "Borders of nothing", Borders(api.Catalog{}), "")
}

// P20.2
func TestRanksFlows(t *testing.T) {
	c := example()
	for name, want := range map[string]int{"a": 0, "e": 0, "b": 1, "c": 1, "d": 2, "call": 0, "lone": 0, "bad": 0} {
		if n, e := Rank(c, name); n != want || e != api.OK {
			t.Error(name, n, e)
		}
	}
	if n, e := Rank(c, "x"); n != 0 || e != api.ErrNone {
		t.Error("no such procedure")
	}
	for streams, want := range map[string]string{"in1": "a bad b c d", "mid": "b c d", "end": "d", "in2 in1": "a bad e b c d", "out": "", "": "", "nowhere end": "lone d"} {
		l, e := Flow(c, strings.Fields(streams)...)
		if is(t, streams, l, want); e != api.OK {
			t.Error(e)
		}
	}
	is(t, "of nothing", first(Flow(c, "")), "")
	room := []string{"in1", "spare", "room", "stays"}
	Flow(c, room[:1]...)
	if strings.Join(room, " ") != "in1 spare room stays" {
		t.Error("what is handed in is changed", room)
	}
	for name, want := range map[string]string{"call": "call d", "a": "a b c d", "d": "d", "lone": "lone"} {
		l, e := After(c, name)
		if is(t, name, l, want); e != api.OK {
			t.Error(e)
		}
	}
	if l, e := After(c, "x"); l != nil || e != api.ErrNone {
		t.Error("no such procedure")
	}
	round := catalog("", proc("a", "x", "y"), proc("b", "y", "x"), proc("c", ""))
	if n, e := Rank(round, "c"); n != 0 || e != api.ErrState {
		t.Error("it goes round")
	}
	if n, e := Rank(round, "z"); n != 0 || e != api.ErrNone {
		t.Error("ErrNone ahead of ErrState")
	}
	if l, e := Flow(round); l != nil || e != api.ErrState {
		t.Error("it goes round")
	}
	if l, e := After(round, "c"); l != nil || e != api.ErrState {
		t.Error("it goes round")
	}
}

func first(l []string, _ api.Errno) []string { return l }

// P20.3
func TestOrder(t *testing.T) {
	r := rand.New(rand.NewSource(11))
	for range 500 {
		var l []api.Proc
		for i := range r.Intn(10) {
			var emits []string
			for range r.Intn(3) {
				emits = append(emits, fmt.Sprint("s", r.Intn(8)))
			}
			from := ""
			if r.Intn(4) > 0 {
				from = fmt.Sprint("s", r.Intn(8))
			}
			l = append(l, proc(fmt.Sprintf("p%d", i), from, emits...))
		}
		c := catalog("", l...)
		reach := func(from string) map[string]bool {
			seen := map[string]bool{}
			work := []string{from}
			for len(work) > 0 {
				i := slices.IndexFunc(l, func(p api.Proc) bool { return p.Name == work[0] })
				work = work[1:]
				for _, s := range l[i].Body {
					for _, q := range Consumers(c, s.Src) {
						if !seen[q] {
							seen[q] = true
							work = append(work, q)
						}
					}
				}
			}
			return seen
		}
		round := false
		for _, p := range l {
			round = round || reach(p.Name)[p.Name]
		}
		if Round(c) != round {
			t.Fatal("Round")
		}
		if round {
			continue
		}
		for _, p := range l {
			after, _ := After(c, p.Name)
			seen := reach(p.Name)
			if len(after) != len(seen)+1 {
				t.Fatal(after, seen)
			}
			for i, q := range after {
				if i > 0 && !seen[q] {
					t.Fatal(q, "isn't reached")
				}
				rank, _ := Rank(c, q)
				j := slices.IndexFunc(l, func(p api.Proc) bool { return p.Name == q })
				want := 0
				for _, f := range Emitters(c, l[j].From) {
					n, _ := Rank(c, f)
					want = max(want, n+1)
					if at := slices.Index(after, f); at > i {
						t.Fatal(f, "stands behind", q)
					}
				}
				if rank != want {
					t.Fatal(q, rank, want)
				}
			}
		}
		if again, _ := Flow(c, "s1", "s2"); !reflect.DeepEqual(again, first(Flow(c, "s2", "s1", "s1"))) {
			t.Fatal("Flow")
		}
	}
}
